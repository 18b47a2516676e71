import PyProof.Rows.All
import Wide.All
import OpenK.AllK
import Wide.FinOn
import HandS.ForMost
import HandS.Wide
import HandS.IsInst
import HandS.RaiseMore
import HandS.TupLe
import HandS.Codes
import HandS.Walk
import HandS.Style
import HandS.Zip
import HandS.TupAny
import HandS.Property
import HandS.MakeKw
import HandS.Defaults
import PySem.Challenge.RW_rockbeds_k08_whole_columns_after_many_ev
set_option Elab.async false
set_option linter.all false
set_option maxRecDepth 100000
namespace Rk
open PySem L2
def top (i : Nat) : Stmt := PySem.Challenge.pw_rockbeds_k08_whole_columns_after_many_ev.main.body.getD i (.Pass ⟨0, 0, 0, 0⟩)
abbrev sIsName : Stmt := top 8
abbrev sIsLevel : Stmt := top 9
abbrev sNeedName : Stmt := top 11
abbrev sNeedLevel : Stmt := top 12
abbrev sNeedNameOrNone : Stmt := top 13
abbrev sIsBed : Stmt := top 14
abbrev sMerges : Stmt := top 15
abbrev sAreBeds : Stmt := top 16
abbrev sFeed : Stmt := top 19
abbrev sDraw : Stmt := top 20
abbrev sPick : Stmt := top 21
abbrev sNames : Stmt := top 22
abbrev sLevel : Stmt := top 23
abbrev sTop : Stmt := top 24
abbrev sLaid : Stmt := top 25
abbrev sCutOff : Stmt := top 26
abbrev sPool : Stmt := top 27
abbrev sLayers : Stmt := top 28
abbrev sColumn : Stmt := top 29
abbrev sBuilt : Stmt := top 30
abbrev sToldColumn : Stmt := top 31
abbrev sHeights : Stmt := top 32
abbrev sNear : Stmt := top 33
abbrev sNext : Stmt := top 34
abbrev sLaw : Stmt := top 35
/-! ### the feed -/
abbrev kC : Key := Sum.inr "cells"
abbrev kA : Key := Sum.inr "at"
abbrev kL : Key := Sum.inr "left"
def fk (c : Addr) (n l : Int) : List (Key × V) := [(kC, .ref c), (kA, .int n), (kL, .int l)]
theorem nCA : ¬ kC = kA := by decide +kernel
theorem nCL : ¬ kC = kL := by decide +kernel
theorem nAL : ¬ kA = kL := by decide +kernel
theorem fk_cells (c : Addr) (n l : Int) : valV (fk c n l) kC = some (.ref c) := valV_pos rfl
theorem fk_at (c : Addr) (n l : Int) : valV (fk c n l) kA = some (.int n) := by
  unfold fk
  rw [valV_neg nCA, valV_pos rfl]
theorem fk_left (c : Addr) (n l : Int) : valV (fk c n l) kL = some (.int l) := by
  unfold fk
  rw [valV_neg nCL, valV_neg nAL, valV_pos rfl]
theorem fk_put_left (c : Addr) (n l z : Int) : putK (fk c n l) kL (.int z) = fk c n z := by
  unfold fk putK
  simp only [List.any_cons, List.map_cons, List.map_nil, List.any_nil, nCL, nAL, decide_false, decide_true, Bool.or_true, Bool.true_or, Bool.false_or, if_true, if_false, Bool.or_false]
theorem fk_put_at (c : Addr) (n l z : Int) : putK (fk c n l) kA (.int z) = fk c z l := by
  unfold fk putK
  have e : ¬ kL = kA := fun h => nAL h.symm
  simp only [List.any_cons, List.map_cons, List.map_nil, List.any_nil, nCA, e, decide_false, decide_true, Bool.or_true, Bool.true_or, Bool.false_or, if_true, if_false, Bool.or_false]
structure Feed (H : Hp) (d c : Addr) (ns : List Int) (n : Nat) : Prop where
  fd : ∃ l : Int, 0 ≤ l ∧ H d = some (.dK (fk c n l))
  cl : H c = some (.lst (ns.map V.int))
  ln : ns.length ≤ 63
/-- all but d stands as it stood -/
def Keep (d : Addr) (H H' : Hp) : Prop := ∀ b o, b ≠ d → H b = some o → H' b = some o
theorem Keep.refl (d : Addr) (H : Hp) : Keep d H H := fun _ _ _ h => h
theorem Keep.trans {d : Addr} {H H1 H2 : Hp} (a : Keep d H H1) (b : Keep d H1 H2) : Keep d H H2 := fun x o n h => b x o n (a x o n h)
theorem Keep.new {d p : Addr} {H : Hp} {o : HO} (h : H p = none) : Keep d H (upd H p o) := fun b x _ e => by
  rw [upd_ne (ne_of_none e h)]
  exact e
theorem Keep.put {d : Addr} {H : Hp} {o : HO} : Keep d H (upd H d o) := fun b x n e => by
  rw [upd_ne n]
  exact e
theorem Feed.ne {H : Hp} {d c : Addr} {ns : List Int} {n : Nat} (F : Feed H d c ns n) : c ≠ d := by
  obtain ⟨⟨l, _, h⟩, hc, _⟩ := F
  exact ne_of hc h (by intro z; cases z)
theorem Feed.new {H : Hp} {d c p : Addr} {ns : List Int} {n : Nat} {o : HO} (F : Feed H d c ns n) (h : H p = none) : Feed (upd H p o) d c ns n := by
  obtain ⟨⟨l, l0, e⟩, hc, hl⟩ := F
  exact ⟨⟨l, l0, by rw [upd_ne (ne_of_none e h)]; exact e⟩, by rw [upd_ne (ne_of_none hc h)]; exact hc, hl⟩
theorem Feed.put {H : Hp} {d c : Addr} {ns : List Int} {n m : Nat} {l : Int} (F : Feed H d c ns n) (h : 0 ≤ l) : Feed (upd H d (.dK (fk c m l))) d c ns m :=
  ⟨⟨l, h, upd_same⟩, by rw [upd_ne F.ne]; exact F.cl, F.ln⟩
structure Txt (mg : Str → Option Value) : Prop where
  int : mg "int" = none
  len : mg "len" = none
  abs : mg "abs" = none
  range : mg "range" = none
  tuple : mg "tuple" = none
  list : mg "list" = none
  str : mg "str" = none
  bool : mg "bool" = none
  isinstance : mg "isinstance" = none
  all : mg "all" = none
  any : mg "any" = none
  min : mg "min" = none
  sum : mg "sum" = none
  zip : mg "zip" = none
/-- a def of the top: where it stands, and how its arguments bind -/
structure DefAt (K : PySem.W.Frag) (mg : Str → Option Value) (x : Str) (st : Stmt) (ps : List Str) (f : Addr) (fd : FuncData) : Prop where
  F : Fun K x x st f fd
  M : mg x = some (.ref f)
  B : Binds K fd ps []
/-! ### draw -/
def spDraw : Sp := fun vs H Q _ => ∃ (d c : Addr) (ns : List Int) (n : Nat) (m : Int), vs = [.ref d, .int m] ∧ Feed H d c ns n ∧ n < 1000000000 ∧ 0 < m ∧ m < 1073741824 ∧
  ∀ (r : Int) (H' : Hp) (n' : Nat), 0 ≤ r → r < m → n' ≤ n + 1 → Feed H' d c ns n' → Keep d H H' → Q (.int r) H'
theorem dpInts {K : PySem.W.Frag} {H : Hp} : ∀ ns : List Int, DpAll K H (ns.map V.int) (ns.map PyData.int)
  | [] => .nil
  | n :: r => .cons (.int n) (dpInts r)
theorem shInts : ∀ ns : List Int, SeqAt.shaped (.list (ns.map PyData.int)) = true
  | [] => rfl
  | n :: r => shInts r
theorem map_int {ns : List Int} {i : Nat} {v : V} (h : (ns.map V.int)[i]? = some v) : ∃ z, v = .int z := by
  rw [List.getElem?_map] at h
  cases e : ns[i]? with
  | none => rw [e] at h; cases h
  | some z => rw [e] at h; exact ⟨z, (Option.some.inj h).symm⟩
theorem fdiv_nn {a b : Int} (ha : 0 ≤ a) (hb : 0 < b) : 0 ≤ a.fdiv b := by
  rw [Int.fdiv_eq_ediv_of_nonneg a (Int.le_of_lt hb)]
  exact Int.ediv_nonneg ha (Int.le_of_lt hb)
theorem fmod_lo (a : Int) {b : Int} (hb : 0 < b) : 0 ≤ a.fmod b := by
  rw [Int.fmod_eq_emod_of_nonneg a (Int.le_of_lt hb)]
  exact Int.emod_nonneg a (by omega)
theorem fmod_hi (a : Int) {b : Int} (hb : 0 < b) : a.fmod b < b := by
  rw [Int.fmod_eq_emod_of_nonneg a (Int.le_of_lt hb)]
  exact Int.emod_lt_of_pos a hb
theorem atI_of {xs : List V} {i : Int} (h0 : 0 ≤ i) (h1 : i < xs.length) : ∃ v, xs[i.toNat]? = some v ∧ atI xs i = some v := by
  have h : i.toNat < xs.length := by omega
  refine ⟨xs[i.toNat], List.getElem?_eq_getElem h, ?_⟩
  have e : atI xs ((i.toNat : Nat) : Int) = some xs[i.toNat] := atI_nat (List.getElem?_eq_getElem h)
  rwa [Int.toNat_of_nonneg h0] at e
theorem prime_at (i : Int) (h0 : 0 ≤ i) (h1 : i < 5) : ∃ q : Int, atI ([.int 2147483629, .int 2147483647, .int 2147483587, .int 2147483563, .int 2147483579] : List V) i = some (.int q) ∧ 2147483563 ≤ q ∧ q ≤ 2147483647 := by
  have h : i = 0 ∨ i = 1 ∨ i = 2 ∨ i = 3 ∨ i = 4 := by omega
  rcases h with rfl | rfl | rfl | rfl | rfl
  · exact ⟨_, rfl, by decide, by decide⟩
  · exact ⟨_, rfl, by decide, by decide⟩
  · exact ⟨_, rfl, by decide, by decide⟩
  · exact ⟨_, rfl, by decide, by decide⟩
  · exact ⟨_, rfl, by decide, by decide⟩
theorem scDraw : FnScope ["_law_feed_here", "_law_many", "_law_digit", "_law_at", "_law_cell", "_law_primes", "_law_prime", "_law_mixed"] ["_law_feed_here", "_law_many"] (defScope sDraw) :=
  ⟨rfl, rfl, rfl, by decide +kernel, rfl, by decide +kernel, by decide +kernel⟩
section
variable {P : Program} {w : World} {K : PySem.W.Frag} {mg : Str → Option Value} {base : Heap}
theorem ok_draw {f : Addr} {fd : FuncData} (F : Fun K "_law_draw" "_law_draw" sDraw f fd) (T : Txt mg) : FnOk P w K mg base CX0 1 f fd ["_law_feed_here", "_law_many"] spDraw := by
  refine F.ok scDraw (fun vs H Q E h => ?_) (fun cdv A outer s H vs Q E hr h => ?_)
  · obtain ⟨d, c, ns, n, m, rfl, _⟩ := h
    rfl
  · obtain ⟨d, c, ns, n, m, rfl, FD, hn, hm0, hm, k⟩ := h
    have hu := hu_of hr
    have nd := scDraw.nd
    obtain ⟨⟨l, l0, hd⟩, hc, hl⟩ := id FD
    refine ⟨_, (pss_cons (ps_if (pt_cmpR op_gt (pe_dget hu (pv 0) pe_str (fun _ _ => rfl)) pe_int (nomark _))
      (pss_cons (ps_set (i := 2) nd rfl (.inl rfl) (pe_op op_modN (pe_callTy call_int1 (by rfl) T.int (by decide +kernel) (pa_cons (pe_dget hu (pv 0) pe_str (fun _ _ => rfl)) pa_nil)) (pv 1)))
    (pss_cons (ps_dput hu (pv 0) pe_str (pe_op op_fdivN (pe_dget hu (pv 0) pe_str (fun _ _ => rfl)) (pv 1)) rfl)
    (pss_one (ps_ret (pv 2)))))
      pss_nil)
    (pss_cons (ps_set (i := 3) nd rfl (.inl rfl) (pe_dget hu (pv 0) pe_str (fun _ _ => rfl)))
    (pss_cons (ps_dput hu (pv 0) pe_str (pe_op op_add (pv 3) pe_int) rfl)
    (pss_cons (ps_set (i := 4) nd rfl (.inl rfl) (pe_op op_add (pe_op op_mul pe_int (pv 3)) pe_int))
    (C8.pss_cut (ps_if (pt_cmpR (op_neD hr.units) (pe_dget hu (pv 0) pe_str (fun _ _ => rfl)) (pe_lst pa_nil) (nomark _))
      (pss_one (ps_set (i := 4) nd rfl (.inl rfl) (pe_ix ix_list (pe_dget hu (pv 0) pe_str (fun _ _ => rfl)) (pe_op op_modN (pe_callTy call_int1 (by rfl) T.int (by decide +kernel) (pa_cons (pv 3) pa_nil)) (pe_callB call_len_seq (by rfl) T.len (by decide +kernel) (pa_cons (pe_dget hu (pv 0) pe_str (fun _ _ => rfl)) pa_nil))) (fun _ _ => rfl))))
      pss_nil)
    (C8.pss_cut (ps_if (PW.pt (pw_and (pt_cmpR op_lt (pv 3) (pe_callB call_len_seq (by rfl) T.len (by decide +kernel) (pa_cons (pe_dget hu (pv 0) pe_str (fun _ _ => rfl)) pa_nil)) (nomark _)) (pw_and1 (pt_cmpR op_ge (pe_callB call_abs (by rfl) T.abs (by decide +kernel) (pa_cons (pv 4) pa_nil)) (pe_op op_pow pe_int pe_int) (nomark _)))))
      (pss_cons (ps_dput hu (pv 0) pe_str (pe_op op_fdivN (pe_op op_sub (pe_callB call_abs (by rfl) T.abs (by decide +kernel) (pa_cons (pv 4) pa_nil)) (pe_op op_pow pe_int pe_int)) (pv 1)) rfl)
    (pss_one (ps_ret (pe_op op_modN (pe_op op_sub (pe_callB call_abs (by rfl) T.abs (by decide +kernel) (pa_cons (pv 4) pa_nil)) (pe_op op_pow pe_int pe_int)) (pv 1)))))
      pss_nil)
    (pss_cons (ps_set (i := 5) nd rfl (.inl rfl) (pe_lst (pa_cons pe_int (pa_cons pe_int (pa_cons pe_int (pa_cons pe_int (pa_cons pe_int pa_nil)))))))
    (pss_cons (ps_set (i := 6) nd rfl (.inl rfl) (pe_ix ix_list (pv 5) (pe_op op_modN (pe_callTy call_int1 (by rfl) T.int (by decide +kernel) (pa_cons (pv 3) pa_nil)) pe_int) (fun _ _ => rfl)))
    (pss_cons (ps_set (i := 7) nd rfl (.inl rfl) (pe_op op_modN (pe_callTy call_int1 (by rfl) T.int (by decide +kernel) (pa_cons (pe_op op_add (pe_op op_add (pe_op op_add (pe_op op_mul (pe_op op_modN (pe_callTy call_int1 (by rfl) T.int (by decide +kernel) (pa_cons (pv 4) pa_nil)) (pv 6)) pe_int) (pe_op op_mul (pe_op op_mul pe_int (pv 3)) (pv 3))) (pe_op op_mul pe_int (pv 3))) pe_int) pa_nil)) (pv 6)))
    (pss_cons (ps_set (i := 7) nd rfl (.inl rfl) (pe_op op_modN (pe_callTy call_int1 (by rfl) T.int (by decide +kernel) (pa_cons (pe_op op_mul (pv 7) (pe_op op_add (pv 7) pe_int)) pa_nil)) (pe_ix ix_list (pv 5) (pe_op op_modN (pe_callTy call_int1 (by rfl) T.int (by decide +kernel) (pa_cons (pe_op op_add (pv 3) pe_int) pa_nil)) pe_int) (fun _ _ => rfl))))
    (pss_one (ps_ret (pe_op op_modN (pe_callTy call_int1 (by rfl) T.int (by decide +kernel) (pa_cons (pe_op op_fdivN (pe_op op_modN (pe_callTy call_int1 (by rfl) T.int (by decide +kernel) (pa_cons (pe_op op_mul (pv 7) (pv 7)) pa_nil)) pe_int) pe_int) pa_nil)) (pv 1)))))))))))))), ?_⟩
    have gL : DGet H d (.str "left") (some (.int l)) := by
      have := DGet.k (k := kL) hd
      rwa [fk_left] at this
    -- if feed['left'] > 0
    refine ⟨.ref d, rfl, d, _, rfl, gL, _, _, rfl, rfl, _, rfl, ite2 (fun hpos => ?_) (fun hneg => ?_)⟩
    · have lpos : 0 < l := of_decide_eq_true hpos
      refine ⟨.ref d, rfl, d, _, rfl, gL, .inl ⟨_, rfl, .int m, rfl, _, _, rfl, rfl, (by omega), ?_⟩⟩
      refine ⟨.ref d, rfl, d, _, rfl, gL, .int m, rfl, _, _, rfl, rfl, ⟨by omega, by omega⟩, .ref d, rfl, d, _, rfl, DPut.k (k := kL) hd (small1000 (by show 3 ≤ 1000; decide)), ?_⟩
      refine ⟨_, rfl, ?_⟩
      rw [fk_put_left]
      exact k _ _ n (fmod_lo l hm0) (fmod_hi l hm0) (by omega) (FD.put (fdiv_nn l0 hm0)) Keep.put
    · -- at = feed['at'] ..
      have gA : DGet H d (.str "at") (some (.int n)) := by
        have := DGet.k (k := kA) hd
        rwa [fk_at] at this
      refine ⟨.ref d, rfl, d, _, rfl, gA, ?_⟩
      refine ⟨.int n, rfl, _, _, rfl, rfl, .ref d, rfl, d, _, rfl, DPut.k (k := kA) hd (small1000 (by show 3 ≤ 1000; decide)), ?_⟩
      rw [fk_put_at]
      have F1 : Feed (upd H d (.dK (fk c ((n + 1 : Nat) : Int) l))) d c ns (n + 1) := FD.put l0
      have K1 : Keep d H (upd H d (.dK (fk c ((n + 1 : Nat) : Int) l))) := Keep.put
      rw [show ((n : Int) + 1) = ((n + 1 : Nat) : Int) by omega]
      generalize upd H d (.dK (fk c ((n + 1 : Nat) : Int) l)) = H1 at F1 K1 ⊢
      clear hneg gA gL hd
      obtain ⟨⟨l1, l10, hd⟩, hc1, _⟩ := id F1
      have gC : DGet H1 d (.str "cells") (some (.ref c)) := by
        have := DGet.k (k := kC) hd
        rwa [fk_cells] at this
      -- cell = 37 * at + 11
      refine ⟨.int n, rfl, _, _, rfl, rfl, .inl ⟨by decide, by decide⟩, _, _, rfl, rfl, ?_⟩
      -- if cells != []: cell = ..
      refine ⟨fun σ H2 => ∃ z : Int, σ = [some (.ref d), some (.int m), none, some (.int n), some (.int z), none, none, none] ∧ Feed H2 d c ns (n + 1) ∧ Keep d H H2, ?_, ?_⟩
      · refine ⟨.ref d, rfl, d, _, rfl, gC, Nat.zero_le _, fun p np => ?_⟩
        have F2 := F1.new (o := .lst []) np
        have K2 := K1.trans (Keep.new (d := d) (o := .lst []) np)
        have hp2 : (upd H1 p (.lst [])) p = some (.lst []) := upd_same
        generalize upd H1 p (.lst []) = H2 at F2 K2 hp2 ⊢
        obtain ⟨⟨l2, l20, hd2⟩, hc2, _⟩ := id F2
        have gC2 : DGet H2 d (.str "cells") (some (.ref c)) := by
          have := DGet.k (k := kC) hd2
          rwa [fk_cells] at this
        refine ⟨.list (ns.map PyData.int), .list [], .lst (.inl (.inl hc2)) (dpInts ns), .lst (.inl (.inl hp2)) .nil, shInts ns, rfl, _, rfl, ?_⟩
        cases ns with
        | nil => exact iteF ⟨_, rfl, F2, K2⟩
        | cons z0 zs =>
          refine iteT ?_
          have hlen : 0 < ((z0 :: zs).map V.int).length := by simp
          obtain ⟨v, e1, e2⟩ := atI_of (xs := (z0 :: zs).map V.int) (i := (n : Int).fmod (((z0 :: zs).map V.int).length : Int)) (fmod_lo _ (by omega)) (fmod_hi _ (by omega))
          obtain ⟨z, rfl⟩ := map_int e1
          exact ⟨.ref d, rfl, d, _, rfl, gC2, .int n, rfl, .inl ⟨_, rfl, .ref d, rfl, d, _, rfl, gC2, c, _, rfl, .inl (.inl (.inl hc2)), _, _, rfl, rfl, by omega, c, _, _, _, rfl, rfl, .inl (.inl hc2), e2, z, rfl, F2, K2⟩⟩
      rintro σ H2 ⟨z, rfl, F2, K2⟩
      clear gC hc1 hd K1 F1
      obtain ⟨⟨l2, l20, hd2⟩, hc2, _⟩ := id F2
      have gC2 : DGet H2 d (.str "cells") (some (.ref c)) := by
        have := DGet.k (k := kC) hd2
        rwa [fk_cells] at this
      -- if at < len(cells) and abs(cell) >= 10 ** 18
      refine ⟨fun σ H3 => σ = [some (.ref d), some (.int m), none, some (.int n), some (.int z), none, none, none] ∧ Feed H3 d c ns (n + 1) ∧ Keep d H H3, ?_, ?_⟩
      · have habs : 0 ≤ (if z < 0 then -z else z) := by split <;> omega
        refine ⟨.int n, rfl, .ref d, rfl, d, _, rfl, gC2, c, _, rfl, .inl (.inl (.inl hc2)), _, _, rfl, rfl, _, rfl, ?_⟩
        refine ite2 (fun _ => ?_) (fun hlt => ?_)
        · refine ⟨.int z, rfl, z, rfl, _, _, rfl, rfl, ⟨by decide, by decide, by decide⟩, _, _, rfl, rfl, _, rfl, ?_⟩
          refine ite2 (fun hge => ?_) (fun hlt => ?_)
          · have h10 : (10 : Int) ^ (18 : Int).toNat ≤ (if z < 0 then -z else z) := of_decide_eq_true hge
            have hnn : 0 ≤ (if z < 0 then -z else z) - (10 : Int) ^ (18 : Int).toNat := by omega
            refine ⟨.int z, rfl, z, rfl, _, _, rfl, rfl, ⟨by decide, by decide, by decide⟩, _, _, rfl, rfl, .int m, rfl, _, _, rfl, rfl, ⟨by omega, by omega⟩, .ref d, rfl, d, _, rfl, DPut.k (k := kL) hd2 (small1000 (by show 3 ≤ 1000; decide)), ?_⟩
            rw [fk_put_left]
            refine ⟨.int z, rfl, z, rfl, _, _, rfl, rfl, ⟨by decide, by decide, by decide⟩, _, _, rfl, rfl, .int m, rfl, _, _, rfl, rfl, by omega, ?_⟩
            exact k _ _ (n + 1) (fmod_lo _ hm0) (fmod_hi _ hm0) (by omega) (F2.put (fdiv_nn hnn hm0)) (K2.trans Keep.put)
          · exact ⟨rfl, F2, K2⟩
        · exact iteF ⟨rfl, F2, K2⟩
      rintro σ H3 ⟨rfl, F3, K3⟩
      clear gC2 hc2 hd2 F2 K2
      -- primes
      refine ⟨by show 5 ≤ sizeLine; decide, fun p np => ?_⟩
      have F4 := F3.new (o := .lst [.int 2147483629, .int 2147483647, .int 2147483587, .int 2147483563, .int 2147483579]) np
      have K4 := K3.trans (Keep.new (d := d) (o := .lst [.int 2147483629, .int 2147483647, .int 2147483587, .int 2147483563, .int 2147483579]) np)
      have hp4 : (upd H3 p (.lst [.int 2147483629, .int 2147483647, .int 2147483587, .int 2147483563, .int 2147483579])) p = some (.lst [.int 2147483629, .int 2147483647, .int 2147483587, .int 2147483563, .int 2147483579]) := upd_same
      generalize upd H3 p (.lst [.int 2147483629, .int 2147483647, .int 2147483587, .int 2147483563, .int 2147483579]) = H4 at F4 K4 hp4 ⊢
      obtain ⟨q1, a1, lo1, hi1⟩ := prime_at ((n : Int).fmod 5) (fmod_lo _ (by decide)) (fmod_hi _ (by decide))
      obtain ⟨q2, a2, lo2, hi2⟩ := prime_at (((n : Int) + 2).fmod 5) (fmod_lo _ (by decide)) (fmod_hi _ (by decide))
      -- prime = primes[int(at) % 5]
      refine ⟨.ref p, rfl, .int n, rfl, .inl ⟨_, rfl, _, _, rfl, rfl, (by show (5 : Int) ≠ 0; decide), p, _, _, _, rfl, rfl, .inl (.inl hp4), a1, ?_⟩⟩
      obtain ⟨y0, hy0⟩ : ∃ y, y = z.fmod q1 := ⟨_, rfl⟩
      have m1l : 0 ≤ y0 := by rw [hy0]; exact fmod_lo z (by omega)
      have m1h : y0 < q1 := by rw [hy0]; exact fmod_hi z (by omega)
      obtain ⟨x1, hx1⟩ : ∃ x, x = y0 * 48271 + 40699 * (n : Int) * (n : Int) + 69621 * (n : Int) + 7 := ⟨_, rfl⟩
      obtain ⟨y1, hy1⟩ : ∃ y, y = x1.fmod q1 := ⟨_, rfl⟩
      have m2l : 0 ≤ y1 := by rw [hy1]; exact fmod_lo x1 (by omega)
      have m2h : y1 < q1 := by rw [hy1]; exact fmod_hi x1 (by omega)
      obtain ⟨x2, hx2⟩ : ∃ x, x = y1 * (y1 + 16807) := ⟨_, rfl⟩
      obtain ⟨y2, hy2⟩ : ∃ y, y = x2.fmod q2 := ⟨_, rfl⟩
      have m3l : 0 ≤ y2 := by rw [hy2]; exact fmod_lo x2 (by omega)
      have m3h : y2 < q2 := by rw [hy2]; exact fmod_hi x2 (by omega)
      refine ⟨.int z, rfl, .inl ⟨_, rfl, .int q1, rfl, _, _, rfl, rfl, (by show q1 ≠ 0; omega), y0, _, hy0 ▸ rfl, rfl, .inr ⟨by decide, by decide⟩, .int n, rfl, _, _, rfl, rfl, .inl ⟨by decide, by decide⟩, .int n, rfl, _, n, rfl, rfl, .inr ⟨by omega, by omega⟩,
        _, _, rfl, rfl, .int n, rfl, _, _, rfl, rfl, .inl ⟨by decide, by decide⟩, _, _, rfl, rfl, _, _, rfl, rfl, .inl ⟨x1, hx1 ▸ rfl, .int q1, rfl, _, _, rfl, rfl, (by show q1 ≠ 0; omega), ?_⟩⟩⟩
      refine ⟨.int y1, hy1 ▸ rfl, .int y1, hy1 ▸ rfl, y1, _, rfl, rfl, y1, y1 + 16807, rfl, rfl, .inl ⟨by omega, by omega⟩, .inl ⟨x2, hx2 ▸ rfl, .ref p, rfl, .int n, rfl, _, _, rfl, rfl, .inl ⟨_, rfl, _, _, rfl, rfl, (by show (5 : Int) ≠ 0; decide), p, _, _, _, rfl, rfl, .inl (.inl hp4), a2, _, q2, rfl, rfl, (by show q2 ≠ 0; omega), ?_⟩⟩⟩
      refine ⟨.int y2, hy2 ▸ rfl, .int y2, hy2 ▸ rfl, y2, y2, rfl, rfl, .inl ⟨by omega, by omega⟩, .inl ⟨_, rfl, _, _, rfl, rfl, (by show (2147483549 : Int) ≠ 0; decide), _, _, rfl, rfl, ⟨(by decide), (by decide)⟩, .inl ⟨_, rfl, .int m, rfl, _, m, rfl, rfl, (by show m ≠ 0; omega), ?_⟩⟩⟩
      exact k _ _ (n + 1) (fmod_lo _ hm0) (fmod_hi _ hm0) (by omega) F4 K4
/-! ### pick -/
def spPickL : Sp := fun vs H Q _ => ∃ (d c : Addr) (ns : List Int) (n : Nat) (a : Addr) (xs : List V), vs = [.ref d, .ref a] ∧ Feed H d c ns n ∧ n < 1000000000 ∧ H a = some (.lst xs) ∧ 0 < xs.length ∧ xs.length < 1000000 ∧
  ∀ (x : V) (H' : Hp) (n' : Nat), x ∈ xs → n' ≤ n + 1 → Feed H' d c ns n' → Keep d H H' → Q x H'
def spPickS : Sp := fun vs H Q _ => ∃ (d c : Addr) (ns : List Int) (n : Nat) (z : Str), vs = [.ref d, .str z] ∧ Feed H d c ns n ∧ n < 1000000000 ∧ 0 < z.cps.toList.length ∧ z.cps.toList.length < 10000 ∧
  ∀ (x : Nat) (H' : Hp) (n' : Nat), x ∈ z.cps.toList → n' ≤ n + 1 → Feed H' d c ns n' → Keep d H H' → Q (.str ⟨#[x]⟩) H'
theorem scPick : FnScope ["_law_feed_here", "_law_options"] ["_law_feed_here", "_law_options"] (defScope sPick) := ⟨rfl, rfl, rfl, by decide +kernel, rfl, by decide +kernel, by decide +kernel⟩
theorem ok_pickL {f fD : Addr} {fd fdD : FuncData} (F : Fun K "_law_pick" "_law_pick" sPick f fd) (T : Txt mg) (D : DefAt K mg "_law_draw" sDraw ["_law_feed_here", "_law_many"] fD fdD) : FnOk P w K mg base CX0 2 f fd ["_law_feed_here", "_law_options"] spPickL := by
  have GD : FnOk P w K mg base CX0 1 fD fdD ["_law_feed_here", "_law_many"] spDraw := ok_draw D.F T
  refine F.ok scPick (fun vs H Q E h => ?_) (fun cdv A outer s H vs Q E hr h => ?_)
  · obtain ⟨d, c, ns, n, a, xs, rfl, _⟩ := h
    rfl
  · obtain ⟨d, c, ns, n, a, xs, rfl, FD, hn, ha, h0, hm, k⟩ := h
    have hu := hu_of hr
    have nd := scPick.nd
    refine ⟨_, (pss_one (ps_ret (pe_ix ix_list (pv 1) (pe_call GD (hr.mono (by decide)) (by rfl) D.M D.F.kp D.B .nil pass0 (pa_cons (pv 0) (pa_cons (pe_callB call_len_seq (by rfl) T.len (by decide +kernel) (pa_cons (pv 1) pa_nil)) pa_nil))) (fun _ _ => rfl)))), ?_⟩
    refine ⟨.ref a, rfl, .ref d, rfl, .ref a, rfl, a, xs, rfl, .inl (.inl (.inl ha)), ?_⟩
    refine ⟨d, c, ns, n, _, rfl, FD, hn, (by omega), (by omega), fun r H' n' r0 r1 hn' F' K' => ?_⟩
    have ha' : H' a = some (.lst xs) := K' _ _ (fun e => by
      obtain ⟨l, _, hd⟩ := FD.fd
      rw [e, hd] at ha
      cases ha) ha
    obtain ⟨v, e1, e2⟩ := atI_of r0 r1
    exact ⟨a, xs, r, v, rfl, rfl, .inl (.inl ha'), e2, k v H' n' (List.mem_of_getElem? e1) hn' F' K'⟩
theorem ok_pickS {f fD : Addr} {fd fdD : FuncData} (F : Fun K "_law_pick" "_law_pick" sPick f fd) (T : Txt mg) (D : DefAt K mg "_law_draw" sDraw ["_law_feed_here", "_law_many"] fD fdD) : FnOk P w K mg base CX0 2 f fd ["_law_feed_here", "_law_options"] spPickS := by
  have GD : FnOk P w K mg base CX0 1 fD fdD ["_law_feed_here", "_law_many"] spDraw := ok_draw D.F T
  refine F.ok scPick (fun vs H Q E h => ?_) (fun cdv A outer s H vs Q E hr h => ?_)
  · obtain ⟨d, c, ns, n, z, rfl, _⟩ := h
    rfl
  · obtain ⟨d, c, ns, n, z, rfl, FD, hn, h0, hm, k⟩ := h
    have hu := hu_of hr
    have nd := scPick.nd
    have ez : z.length = z.cps.toList.length := rfl
    refine ⟨_, (pss_one (ps_ret (pe_item_str (pv 1) (pe_call GD (hr.mono (by decide)) (by rfl) D.M D.F.kp D.B .nil pass0 (pa_cons (pv 0) (pa_cons (pe_callB call_len_str (by rfl) T.len (by decide +kernel) (pa_cons (pv 1) pa_nil)) pa_nil))) (fun _ _ => rfl)))), ?_⟩
    refine ⟨.str z, rfl, .ref d, rfl, .str z, rfl, z, rfl, (by rw [ez]; exact Nat.le_of_lt (Nat.lt_of_lt_of_le hm (by decide))), ?_⟩
    refine ⟨d, c, ns, n, _, rfl, FD, hn, (by omega), (by omega), fun r H' n' r0 r1 hn' F' K' => ?_⟩
    have hlt : r.toNat < z.cps.size := by
      have : z.cps.size = z.cps.toList.length := rfl
      omega
    refine ⟨z, r, z.cps[r.toNat], rfl, rfl, r0, by omega, by omega, Array.getElem?_eq_getElem hlt, ?_⟩
    exact k _ H' n' (Array.getElem_mem_toList hlt) hn' F' K'
/-! ### data at an address -/
def kD : Key → PyData
  | .inl i => .int i
  | .inr s => .str s
mutual
/-- v is the datum x; none of its objects is in X -/
inductive DV (X : Addr → Prop) (H : Hp) : V → PyData → Prop
  | non : DV X H .non .none
  | bl (b : Bool) : DV X H (.bl b) (.bool b)
  | int (i : Int) : DV X H (.int i) (.int i)
  | str (x : Str) : DV X H (.str x) (.str x)
  | lst {a : Addr} {xs : List V} {ds : List PyData} : ¬ X a → H a = some (.lst xs) → DVs X H xs ds → DV X H (.ref a) (.list ds)
  | tup {a : Addr} {xs : List V} {ds : List PyData} : ¬ X a → H a = some (.tup xs) → DVs X H xs ds → DV X H (.ref a) (.tuple ds)
  | dic {a : Addr} {kvs : List (Key × V)} {ds : List (PyData × PyData)} : ¬ X a → H a = some (.dK kvs) → DVk X H kvs ds → DV X H (.ref a) (.dict ds)
inductive DVs (X : Addr → Prop) (H : Hp) : List V → List PyData → Prop
  | nil : DVs X H [] []
  | cons {v : V} {r : List V} {x : PyData} {ds : List PyData} : DV X H v x → DVs X H r ds → DVs X H (v :: r) (x :: ds)
inductive DVk (X : Addr → Prop) (H : Hp) : List (Key × V) → List (PyData × PyData) → Prop
  | nil : DVk X H [] []
  | cons {k : Key} {v : V} {r : List (Key × V)} {x : PyData} {ds : List (PyData × PyData)} : DV X H v x → DVk X H r ds → DVk X H ((k, v) :: r) ((kD k, x) :: ds)
end
mutual
theorem DV.keep {X Y : Addr → Prop} {H H' : Hp} (K : ∀ b o, ¬ X b → H b = some o → H' b = some o ∧ ¬ Y b) : ∀ {v : V} {x : PyData}, DV X H v x → DV Y H' v x
  | _, _, .non => .non
  | _, _, .bl b => .bl b
  | _, _, .int i => .int i
  | _, _, .str x => .str x
  | _, _, .lst n h r => .lst (K _ _ n h).2 (K _ _ n h).1 (DVs.keep K r)
  | _, _, .tup n h r => .tup (K _ _ n h).2 (K _ _ n h).1 (DVs.keep K r)
  | _, _, .dic n h r => .dic (K _ _ n h).2 (K _ _ n h).1 (DVk.keep K r)
theorem DVs.keep {X Y : Addr → Prop} {H H' : Hp} (K : ∀ b o, ¬ X b → H b = some o → H' b = some o ∧ ¬ Y b) : ∀ {v : List V} {x : List PyData}, DVs X H v x → DVs Y H' v x
  | _, _, .nil => .nil
  | _, _, .cons h r => .cons (DV.keep K h) (DVs.keep K r)
theorem DVk.keep {X Y : Addr → Prop} {H H' : Hp} (K : ∀ b o, ¬ X b → H b = some o → H' b = some o ∧ ¬ Y b) : ∀ {v : List (Key × V)} {x : List (PyData × PyData)}, DVk X H v x → DVk Y H' v x
  | _, _, .nil => .nil
  | _, _, .cons h r => .cons (DV.keep K h) (DVk.keep K r)
end
theorem DVs.mem {X : Addr → Prop} {H : Hp} {v : V} : ∀ {xs : List V} {ds : List PyData}, DVs X H xs ds → v ∈ xs → ∃ x, x ∈ ds ∧ DV X H v x
  | _, _, .nil, h => by cases h
  | _, _, .cons h r, hm => by
    rcases List.mem_cons.mp hm with rfl | hm
    · exact ⟨_, List.mem_cons_self .., h⟩
    · obtain ⟨x, hx, hd⟩ := DVs.mem r hm
      exact ⟨x, List.mem_cons_of_mem _ hx, hd⟩
theorem DVs.append {X : Addr → Prop} {H : Hp} : ∀ {xs ys : List V} {ds es : List PyData}, DVs X H xs ds → DVs X H ys es → DVs X H (xs ++ ys) (ds ++ es)
  | _, _, _, _, .nil, s => s
  | _, _, _, _, .cons h r, s => .cons h (DVs.append r s)
theorem DVs.length {X : Addr → Prop} {H : Hp} : ∀ {xs : List V} {ds : List PyData}, DVs X H xs ds → xs.length = ds.length
  | _, _, .nil => rfl
  | _, _, .cons _ r => by simp [DVs.length r]
theorem dvs_init {X : Addr → Prop} {H : Hp} : ∀ {xs : List V} {v : V} {ds es : List PyData}, es.length = 1 → DVs X H (xs ++ [v]) (ds ++ es) → DVs X H xs ds
  | [], v, ds, es, he, h => by
    cases ds with
    | nil => exact .nil
    | cons d r =>
      have := h.length
      simp only [List.length_append, List.length_cons, List.length_nil, List.nil_append, List.cons_append] at this
      omega
  | x :: r, v, ds, es, he, h => by
    cases ds with
    | nil =>
      have := h.length
      simp only [List.length_append, List.length_cons, List.length_nil, List.nil_append, List.cons_append] at this
      omega
    | cons d s =>
      cases h with
      | cons h1 h2 => exact .cons h1 (dvs_init he h2)
/-- not tracked in H -/
def Old (H : Hp) : Addr → Prop := fun a => H a ≠ none
theorem old_of {H : Hp} {a : Addr} {o : HO} (h : H a = some o) : Old H a := fun e => by rw [h] at e; cases e
theorem Keep.free {d p : Addr} {H H' : Hp} (K : Keep d H H') (nd : p ≠ d) (h : H' p = none) : ¬ Old H p := fun e => by
  cases q : H p with
  | none => exact e q
  | some o => rw [K _ _ nd q] at h; cases h
theorem Keep.old {d : Addr} {H H' : Hp} (K : Keep d H H') {X : Addr → Prop} (hX : X d) : ∀ b o, ¬ X b → H b = some o → H' b = some o ∧ ¬ X b :=
  fun b o n e => ⟨K b o (fun z => n (z ▸ hX)) e, n⟩
theorem Feed.old {H : Hp} {d c : Addr} {ns : List Int} {n : Nat} (F : Feed H d c ns n) : Old H d := by
  obtain ⟨l, _, hd⟩ := F.fd
  exact old_of hd
theorem Old.mono {d : Addr} {H H' : Hp} (K : Keep d H H') {X : Addr → Prop} (hd : Old H' d) {a : Addr} (h : Old H a) : Old H' a := by
  by_cases e : a = d
  · rw [e]; exact hd
  · cases q : H a with
    | none => exact absurd q h
    | some o => exact old_of (K _ _ e q)
/-! ### a new object -/
theorem Feed.nd {H : Hp} {d c p : Addr} {ns : List Int} {n : Nat} (F : Feed H d c ns n) (h : H p = none) : p ≠ d := fun e => by
  obtain ⟨l, _, hd⟩ := F.fd
  rw [e, hd] at h
  cases h
theorem nu {H : Hp} {d c p : Addr} {ns : List Int} {n : Nat} (F : Feed H d c ns n) (np : H p = none) :
    ∃ U : HO → Hp, (∀ o, upd H p o = U o) ∧ (∀ o, Feed (U o) d c ns n) ∧ (∀ o, Keep d H (U o)) ∧ (∀ o, U o p = some o) ∧ p ≠ d :=
  ⟨fun o => upd H p o, fun _ => rfl, fun _ => F.new np, fun _ => Keep.new np, fun _ => upd_same, F.nd np⟩
/-- an object that was laid anew is filled -/
theorem fu {Ha Hc : Hp} {d c p : Addr} {ns : List Int} {n : Nat} (F : Feed Hc d c ns n) (np : Ha p = none) (K : ∀ b o, b ≠ d → b ≠ p → Ha b = some o → Hc b = some o) (nd : p ≠ d) (npc : p ≠ c) :
    ∃ U : HO → Hp, (∀ o, upd Hc p o = U o) ∧ (∀ o, Feed (U o) d c ns n) ∧ (∀ o, Keep d Ha (U o)) ∧ (∀ o, U o p = some o) ∧ ∀ o b, b ≠ p → U o b = Hc b := by
  refine ⟨fun o => upd Hc p o, fun _ => rfl, fun o => ?_, fun o => (fun b x nb e => ?_), fun _ => upd_same, fun o b nb => upd_ne nb⟩
  · obtain ⟨⟨l, l0, e⟩, hc, hl⟩ := F
    exact ⟨⟨l, l0, Eq.trans (upd_ne nd.symm) e⟩, Eq.trans (upd_ne npc.symm) hc, hl⟩
  · have nbp : b ≠ p := ne_of_none e np
    exact Eq.trans (upd_ne nbp) (K b x nb nbp e)
theorem Feed.nc {H : Hp} {d c p : Addr} {ns : List Int} {n : Nat} (F : Feed H d c ns n) (h : H p = none) : p ≠ c := fun e => by
  rw [e, F.cl] at h
  cases h
theorem Feed.kl {H H' : Hp} {d c a : Addr} {ns : List Int} {n : Nat} {xs : List V} (F : Feed H d c ns n) (K : Keep d H H') (h : H a = some (.lst xs)) : H' a = some (.lst xs) := K _ _ (fun e => by
  obtain ⟨l, _, hd⟩ := F.fd
  rw [e, hd] at h
  cases h) h
/-! ### names and levels -/
def lowB (c : Nat) : Bool := decide (97 ≤ c) && decide (c ≤ 122)
def wordB (z : Str) : Bool := decide (1 ≤ z.cps.toList.length) && decide (z.cps.toList.length ≤ 8) && z.cps.toList.all lowB
def nameD : PyData → Bool
  | .str z => wordB z
  | _ => false
def levelD : PyData → Bool
  | .int _ => true
  | _ => false
def tyD : PyData → String
  | .none => "NoneType"
  | .bool _ => "bool"
  | .int _ => "int"
  | .str _ => "str"
  | .list _ => "list"
  | .tuple _ => "tuple"
  | .dict _ => "dict"
def Sm : PyData → Prop
  | .str z => z.cps.toList.length ≤ 1000 ∧ ∀ c ∈ z.cps.toList, c < 1114112
  | _ => True
theorem DV.ty {X : Addr → Prop} {K : PySem.W.Frag} {H : Hp} {v : V} {x : PyData} (h : DV X H v x) : TyX K H v (.type (tyD x)) := by
  cases h with
  | non => exact .base .non
  | bl b => exact .base (.bl b)
  | int i => exact .base (.int i)
  | str x => exact .base (.str x)
  | lst _ e _ => exact .base (.lst e)
  | tup _ e _ => exact .base (.tup e)
  | dic _ e _ => exact .base (.dK e)
def isstrB : PyData → Bool
  | .str _ => true
  | _ => false
theorem is_strD {K : PySem.W.Frag} : ∀ x : PyData, PySem.W.kitOne K (.type (tyD x)) (.type "str") = some (isstrB x)
  | .none => kit_ty (show kitB "NoneType" "str" = some false by decide +kernel)
  | .bool _ => kit_ty (show kitB "bool" "str" = some false by decide +kernel)
  | .int _ => kit_ty (show kitB "int" "str" = some false by decide +kernel)
  | .str _ => kit_ty (show kitB "str" "str" = some true by decide +kernel)
  | .list _ => kit_ty (show kitB "list" "str" = some false by decide +kernel)
  | .tuple _ => kit_ty (show kitB "tuple" "str" = some false by decide +kernel)
  | .dict _ => kit_ty (show kitB "dict" "str" = some false by decide +kernel)
def isintB : PyData → Bool
  | .bool _ => true
  | .int _ => true
  | _ => false
theorem is_intD {K : PySem.W.Frag} : ∀ x : PyData, PySem.W.kitOne K (.type (tyD x)) (.type "int") = some (isintB x)
  | .none => kit_ty (show kitB "NoneType" "int" = some false by decide +kernel)
  | .bool _ => kit_ty (show kitB "bool" "int" = some true by decide +kernel)
  | .int _ => kit_ty (show kitB "int" "int" = some true by decide +kernel)
  | .str _ => kit_ty (show kitB "str" "int" = some false by decide +kernel)
  | .list _ => kit_ty (show kitB "list" "int" = some false by decide +kernel)
  | .tuple _ => kit_ty (show kitB "tuple" "int" = some false by decide +kernel)
  | .dict _ => kit_ty (show kitB "dict" "int" = some false by decide +kernel)
def isboolB : PyData → Bool
  | .bool _ => true
  | _ => false
theorem is_boolD {K : PySem.W.Frag} : ∀ x : PyData, PySem.W.kitOne K (.type (tyD x)) (.type "bool") = some (isboolB x)
  | .none => kit_ty (show kitB "NoneType" "bool" = some false by decide +kernel)
  | .bool _ => kit_ty (show kitB "bool" "bool" = some true by decide +kernel)
  | .int _ => kit_ty (show kitB "int" "bool" = some false by decide +kernel)
  | .str _ => kit_ty (show kitB "str" "bool" = some false by decide +kernel)
  | .list _ => kit_ty (show kitB "list" "bool" = some false by decide +kernel)
  | .tuple _ => kit_ty (show kitB "tuple" "bool" = some false by decide +kernel)
  | .dict _ => kit_ty (show kitB "dict" "bool" = some false by decide +kernel)
def islistB : PyData → Bool
  | .list _ => true
  | _ => false
theorem is_listD {K : PySem.W.Frag} : ∀ x : PyData, PySem.W.kitOne K (.type (tyD x)) (.type "list") = some (islistB x)
  | .none => kit_ty (show kitB "NoneType" "list" = some false by decide +kernel)
  | .bool _ => kit_ty (show kitB "bool" "list" = some false by decide +kernel)
  | .int _ => kit_ty (show kitB "int" "list" = some false by decide +kernel)
  | .str _ => kit_ty (show kitB "str" "list" = some false by decide +kernel)
  | .list _ => kit_ty (show kitB "list" "list" = some true by decide +kernel)
  | .tuple _ => kit_ty (show kitB "tuple" "list" = some false by decide +kernel)
  | .dict _ => kit_ty (show kitB "dict" "list" = some false by decide +kernel)
def istupleB : PyData → Bool
  | .tuple _ => true
  | _ => false
theorem is_tupleD {K : PySem.W.Frag} : ∀ x : PyData, PySem.W.kitOne K (.type (tyD x)) (.type "tuple") = some (istupleB x)
  | .none => kit_ty (show kitB "NoneType" "tuple" = some false by decide +kernel)
  | .bool _ => kit_ty (show kitB "bool" "tuple" = some false by decide +kernel)
  | .int _ => kit_ty (show kitB "int" "tuple" = some false by decide +kernel)
  | .str _ => kit_ty (show kitB "str" "tuple" = some false by decide +kernel)
  | .list _ => kit_ty (show kitB "list" "tuple" = some false by decide +kernel)
  | .tuple _ => kit_ty (show kitB "tuple" "tuple" = some true by decide +kernel)
  | .dict _ => kit_ty (show kitB "dict" "tuple" = some false by decide +kernel)
def isdictB : PyData → Bool
  | .dict _ => true
  | _ => false
theorem is_dictD {K : PySem.W.Frag} : ∀ x : PyData, PySem.W.kitOne K (.type (tyD x)) (.type "dict") = some (isdictB x)
  | .none => kit_ty (show kitB "NoneType" "dict" = some false by decide +kernel)
  | .bool _ => kit_ty (show kitB "bool" "dict" = some false by decide +kernel)
  | .int _ => kit_ty (show kitB "int" "dict" = some false by decide +kernel)
  | .str _ => kit_ty (show kitB "str" "dict" = some false by decide +kernel)
  | .list _ => kit_ty (show kitB "list" "dict" = some false by decide +kernel)
  | .tuple _ => kit_ty (show kitB "tuple" "dict" = some false by decide +kernel)
  | .dict _ => kit_ty (show kitB "dict" "dict" = some true by decide +kernel)
def spTest (g : PyData → Bool) : Sp := fun vs H Q _ => ∃ (v : V) (x : PyData) (X : Addr → Prop), vs = [v] ∧ DV X H v x ∧ Sm x ∧ ∀ H', Same H H' → Q (.bl (g x)) H'
theorem lt_one (a b : Nat) : decide ([a] < [b]) = decide (a < b) := by
  by_cases h : a < b
  · have : [a] < [b] := List.Lex.rel h
    rw [decide_eq_true this, decide_eq_true h]
  · have : ¬ [a] < [b] := fun z => by
      cases z with
      | rel z => exact h z
      | cons z => cases z
    rw [decide_eq_false this, decide_eq_false h]
theorem chr_a : (Str.ofString "a").cps.toList = [97] := by decide +kernel
theorem chr_z : (Str.ofString "z").cps.toList = [122] := by decide +kernel
theorem not_lt_le (a b : Nat) : (!decide (a < b)) = decide (b ≤ a) := by
  by_cases h : a < b
  · rw [decide_eq_true h, decide_eq_false (by omega)]; rfl
  · rw [decide_eq_false h, decide_eq_true (by omega)]; rfl
theorem new_same {H : Hp} {p : Addr} {o : HO} (h : H p = none) : Same H (upd H p o) := fun b x e => by
  rw [upd_ne (ne_of_none e h)]
  exact e
theorem fill_same {H H' : Hp} {p : Addr} {o : HO} (h : H p = none) (k : ∀ b x, b ≠ p → H b = some x → H' b = some x) : Same H (upd H' p o) := fun b x e => by
  have nb : b ≠ p := ne_of_none e h
  rw [upd_ne nb]
  exact k b x nb e
theorem len_le {z : Str} {k : Nat} (h : z.cps.toList.length ≤ k) (hk : k ≤ 1000) : z.length ≤ sizeLine := by
  have e : z.length = z.cps.toList.length := rfl
  rw [e]
  exact Nat.le_of_lt (small1000 (Nat.le_trans h hk))
theorem scIsName : FnScope ["value", "letter"] ["value"] (defScope sIsName) := ⟨rfl, rfl, rfl, by decide +kernel, rfl, by decide +kernel, by decide +kernel⟩
theorem ok_is_name {f : Addr} {fd : FuncData} {tN : Tok} (F : Fun K "is_name" "is_name" sIsName f fd) (T : Txt mg) (mgLONGEST_NAME : mg "LONGEST_NAME" = some (.int 8 tN)) : FnOk P w K mg base CX0 1 f fd ["value"] (spTest nameD) := by
  refine F.ok scIsName (fun vs H Q E h => ?_) (fun cdv A outer s H vs Q E hr h => ?_)
  · obtain ⟨v, x, X, rfl, _⟩ := h
    rfl
  · obtain ⟨v, x, X, rfl, hv, sm, q⟩ := h
    have hu := hu_of hr
    have nd := scIsName.nd
    refine ⟨_, (C8.pss_cut (ps_if (PW.pt (pw_or (pt_not (pt_val (pe_callB call_isi (by rfl) T.isinstance (by decide +kernel) (pa_cons (pv 0) (pa_cons (pe_bltn (v := .ty "str") (by rfl) T.str (by decide +kernel) rfl) pa_nil))))) (pw_or1 (pt_not (pt_chain op_le op_le pe_int (pe_callB call_len_str (by rfl) T.len (by decide +kernel) (pa_cons (pv 0) pa_nil)) (pe_glob (v := .int 8) rfl mgLONGEST_NAME ⟨_, rfl⟩))))))
      (pss_one (ps_ret pe_bl))
      pss_nil)
    (pss_one (ps_ret (pe_callB (cr_all rfl) (by rfl) T.all (by decide +kernel) (pa_cons (pe_lc (own := [("letter", 1)]) (g := gName 1) (by rfl) nd (pi_str (pv 0)) (blkOk_by (own := [("letter", 1)]) (N := ["value", "letter"]) (sc := defScope sIsName) (by decide +kernel)) (fun _ _ _ _ _ => (pg_name (i := 1) nd rfl (Or.inl rfl))) (fun _ _ _ _ _ => pts_nil) (fun _ _ _ _ _ => (pe_chain op_le_str op_le_str pe_str (pv 1) pe_str))) pa_nil))))), ?_⟩
    refine ⟨fun σ H' => H' = H ∧ ∃ z : Str, x = .str z ∧ v = .str z ∧ σ = [some (.str z), none] ∧ 1 ≤ z.cps.toList.length ∧ z.cps.toList.length ≤ 8, ?_, ?_⟩
    · refine ⟨v, rfl, v, .ty "str", _, _, _, rfl, .ty "str", hv.ty, is_strD x, _, rfl, ?_⟩
      cases hv with
      | str z =>
        refine iteF ?_
        refine ⟨.str z, rfl, z, rfl, len_le sm.1 (by decide), _, _, rfl, rfl, _, rfl, ite2 (fun h1 => ?_) (fun h1 => ?_)⟩
        · have e1 : (1 : Int) ≤ z.length := of_decide_eq_true h1
          have e2 : z.length = z.cps.toList.length := rfl
          refine ⟨_, _, rfl, rfl, _, rfl, ?_⟩
          by_cases h8 : (z.length : Int) ≤ 8
          · rw [decide_eq_true h8]
            refine iteF ?_
            exact ⟨rfl, z, rfl, rfl, rfl, by omega, by omega⟩
          · rw [decide_eq_false h8]
            refine iteT ?_
            have e : nameD (.str z) = false := by
              show (decide (1 ≤ z.cps.toList.length) && decide (z.cps.toList.length ≤ 8) && z.cps.toList.all lowB) = false
              rw [decide_eq_false (show ¬ z.cps.toList.length ≤ 8 by omega), Bool.and_false, Bool.false_and]
            have := q H (Same.refl H)
            rw [e] at this
            exact this
        · refine ⟨_, rfl, iteT ?_⟩
          have e1 : ¬ (1 : Int) ≤ z.length := fun z => h1 (decide_eq_true z)
          have e2 : z.length = z.cps.toList.length := rfl
          have e : nameD (.str z) = false := by
            show (decide (1 ≤ z.cps.toList.length) && decide (z.cps.toList.length ≤ 8) && z.cps.toList.all lowB) = false
            rw [decide_eq_false (show ¬ 1 ≤ z.cps.toList.length by omega), Bool.false_and, Bool.false_and]
          have := q H (Same.refl H)
          rw [e] at this
          exact this
      | _ => exact iteT (q H (Same.refl H))
    · rintro σ H' ⟨rfl, z, rfl, rfl, rfl, h1, h8⟩
      refine ⟨.str z, rfl, z, rfl, fun D nD => ?_⟩
      refine lc_it walk_str (fun i Hi => ∃ acc : List Bool, Hi D = some (.lst (acc.map V.bl)) ∧ acc = (z.cps.toList.take i).map lowB ∧ ∀ b x, b ≠ D → H' b = some x → Hi b = some x) ⟨[], upd_same, rfl, fun b x nb e => by rw [upd_ne nb]; exact e⟩ (fun _ _ _ _ => trivial) ?_ ?_
      · rintro i y Hi Hj hi ⟨acc, hD, ea, hk⟩ ⟨rfl, c, hc, rfl⟩
        refine ⟨rfl, ?_⟩
        refine ⟨.str ⟨#[c]⟩, rfl, _, _, rfl, rfl, _, rfl, ?_⟩
        have el : acc.length ≤ 8 := by rw [ea, List.length_map, List.length_take]; omega
        have hci : z.cps.toList[i]? = some c := by rw [Array.getElem?_toList]; exact hc
        have ek : (z.cps.toList.take (i + 1)).map lowB = acc ++ [lowB c] := by
          rw [List.take_add_one, hci, List.map_append, ea]
          rfl
        have fin : ∀ b : Bool, b = lowB c → ∃ acc0, Hj D = some (.lst acc0) ∧ acc0.length < sizeLine ∧ ∃ acc1 : List Bool, (upd Hj D (.lst (acc0 ++ [V.bl b]))) D = some (.lst (acc1.map V.bl)) ∧ acc1 = (z.cps.toList.take (i + 1)).map lowB ∧ ∀ b' x, b' ≠ D → H' b' = some x → (upd Hj D (.lst (acc0 ++ [V.bl b]))) b' = some x := by
          intro b hb
          refine ⟨_, hD, by rw [List.length_map]; exact small1000 (by omega), acc ++ [b], by rw [upd_same, List.map_append]; rfl, by rw [ek, hb], fun b' x nb e => by rw [upd_ne nb]; exact hk b' x nb e⟩
        rw [chr_a, lt_one]
        refine ite2 (fun ha => ?_) (fun ha => ?_)
        · refine ⟨_, _, rfl, rfl, ?_⟩
          rw [chr_z, lt_one]
          rw [not_lt_le] at ha ⊢
          refine fin _ ?_
          unfold lowB
          rw [ha, Bool.true_and]
        · refine fin false ?_
          rw [not_lt_le] at ha
          unfold lowB
          cases hx : decide (97 ≤ c) with
          | true => exact absurd hx ha
          | false => rfl
      · rintro Hi ⟨acc, hD, ea, hk⟩
        refine ⟨D, acc, rfl, .inl (.inl hD), ?_⟩
        have e : acc.all id = nameD (.str z) := by
          show _ = (decide (1 ≤ z.cps.toList.length) && decide (z.cps.toList.length ≤ 8) && z.cps.toList.all lowB)
          rw [decide_eq_true h1, decide_eq_true h8, ea, show z.cps.size = z.cps.toList.length from rfl, List.take_length, List.all_map]
          rfl
        rw [e]
        exact q Hi fun b x e => hk b x (ne_of_none e nD) e
theorem scIsLevel : FnScope ["value"] ["value"] (defScope sIsLevel) := ⟨rfl, rfl, rfl, by decide +kernel, rfl, by decide +kernel, by decide +kernel⟩
theorem ok_is_level {f : Addr} {fd : FuncData} (F : Fun K "is_level" "is_level" sIsLevel f fd) (T : Txt mg) : FnOk P w K mg base CX0 1 f fd ["value"] (spTest levelD) := by
  refine F.ok scIsLevel (fun vs H Q E h => ?_) (fun cdv A outer s H vs Q E hr h => ?_)
  · obtain ⟨v, x, X, rfl, _⟩ := h
    rfl
  · obtain ⟨v, x, X, rfl, hv, sm, q⟩ := h
    have nd := scIsLevel.nd
    refine ⟨_, (pss_one (ps_ret (pe_and (pe_callB call_isi (by rfl) T.isinstance (by decide +kernel) (pa_cons (pv 0) (pa_cons (pe_bltn (v := .ty "int") (by rfl) T.int (by decide +kernel) rfl) pa_nil))) (pe_one (pe_not (pe_callB call_isi (by rfl) T.isinstance (by decide +kernel) (pa_cons (pv 0) (pa_cons (pe_bltn (v := .ty "bool") (by rfl) T.bool (by decide +kernel) rfl) pa_nil)))))))), ?_⟩
    refine ⟨v, rfl, v, .ty "int", _, _, _, rfl, .ty "int", hv.ty, is_intD x, _, rfl, ?_⟩
    have rest : ∀ b : Bool, b = levelD x → Q (.bl b) H := fun b e => e ▸ q H (Same.refl H)
    cases hb : isintB x with
    | true =>
      refine iteT ⟨v, rfl, v, .ty "bool", _, _, _, rfl, .ty "bool", hv.ty, is_boolD x, _, rfl, rest _ ?_⟩
      cases x <;> first | rfl | cases hb
    | false =>
      refine iteF (rest false ?_)
      cases x <;> first | rfl | cases hb
/-! ### beds -/
structure Bed where
  rock : Str
  th : Int
  mark : Option Str
def oV : Option Str → V
  | none => .non
  | some s => .str s
def oD : Option Str → PyData
  | none => .none
  | some s => .str s
def bedV (b : Bed) : List V := [.str b.rock, .int b.th, oV b.mark]
def bedD (b : Bed) : PyData := .tuple [.str b.rock, .int b.th, oD b.mark]
def okO (o : Option Str) : Prop := ∀ z, o = some z → wordB z = true
structure GoodB (b : Bed) : Prop where
  rock : wordB b.rock = true
  th : 1 ≤ b.th
  mark : okO b.mark
/-- no two neighbours of one rock without a mark between them -/
def Apart : List Bed → Prop
  | x :: y :: r => ¬ (x.rock = y.rock ∧ x.mark = none) ∧ Apart (y :: r)
  | _ => True
structure GoodBs (bs : List Bed) : Prop where
  all : ∀ b ∈ bs, GoodB b
  apart : Apart bs
theorem dv_o {X : Addr → Prop} {H : Hp} (o : Option Str) : DV X H (oV o) (oD o) := by
  cases o with
  | none => exact .non
  | some s => exact .str s
theorem o_inv {X : Addr → Prop} {H : Hp} {v : V} {o : Option Str} (h : DV X H v (oD o)) : v = oV o := by
  cases o with
  | none => cases h; rfl
  | some s => cases h; rfl
theorem dv_bed {X : Addr → Prop} {H : Hp} {a : Addr} {b : Bed} (n : ¬ X a) (h : H a = some (.tup (bedV b))) : DV X H (.ref a) (bedD b) :=
  .tup n h (.cons (.str _) (.cons (.int _) (.cons (dv_o _) .nil)))
theorem bed_inv {X : Addr → Prop} {H : Hp} {v : V} {b : Bed} (h : DV X H v (bedD b)) : ∃ a, v = .ref a ∧ ¬ X a ∧ H a = some (.tup (bedV b)) := by
  cases h with
  | tup n e r =>
    cases r with
    | cons h1 r =>
      cases r with
      | cons h2 r =>
        cases r with
        | cons h3 r =>
          cases r
          cases h1
          cases h2
          have := o_inv h3
          subst this
          exact ⟨_, rfl, n, e⟩
theorem DVs.get {X : Addr → Prop} {H : Hp} : ∀ {xs : List V} {ds : List PyData} {i : Nat} {v : V}, DVs X H xs ds → xs[i]? = some v → ∃ x, ds[i]? = some x ∧ DV X H v x
  | _, _, _, _, .nil, e => by simp at e
  | _, _, 0, _, .cons h r, e => by cases e; exact ⟨_, rfl, h⟩
  | _, _, i + 1, _, .cons h r, e => by
    obtain ⟨x, h1, h2⟩ := DVs.get r (by simpa using e)
    exact ⟨x, by simpa using h1, h2⟩
theorem beds_get {X : Addr → Prop} {H : Hp} {xs : List V} {bs : List Bed} {i : Nat} {v : V} (S : DVs X H xs (bs.map bedD)) (e : xs[i]? = some v) : ∃ b a, bs[i]? = some b ∧ v = .ref a ∧ ¬ X a ∧ H a = some (.tup (bedV b)) := by
  obtain ⟨x, h1, h2⟩ := S.get e
  rw [List.getElem?_map] at h1
  cases hb : bs[i]? with
  | none => rw [hb] at h1; cases h1
  | some b =>
    rw [hb] at h1
    cases h1
    obtain ⟨a, h3, h4, h5⟩ := bed_inv h2
    exact ⟨b, a, rfl, h3, h4, h5⟩
theorem beds_len {X : Addr → Prop} {H : Hp} {xs : List V} {bs : List Bed} (S : DVs X H xs (bs.map bedD)) : xs.length = bs.length := by rw [S.length, List.length_map]
theorem apart_at : ∀ {bs : List Bed} {i : Nat} {x y : Bed}, Apart bs → bs[i]? = some x → bs[i + 1]? = some y → ¬ (x.rock = y.rock ∧ x.mark = none)
  | [], _, _, _, _, h, _ => by simp at h
  | [_], 0, _, _, _, _, h => by simp at h
  | [_], i + 1, _, _, _, h, _ => by simp at h
  | a :: b :: r, 0, x, y, p, h1, h2 => by
    cases h1
    cases h2
    exact p.1
  | a :: b :: r, i + 1, x, y, p, h1, h2 => apart_at (bs := b :: r) p.2 h1 h2
theorem word_sm {z : Str} (h : wordB z = true) : Sm (.str z) := by
  obtain ⟨h1, h2⟩ := Bool.and_eq_true_iff.mp h
  obtain ⟨h3, h4⟩ := Bool.and_eq_true_iff.mp h1
  refine ⟨Nat.le_trans (of_decide_eq_true h4) (by decide), fun c hc => ?_⟩
  have := List.all_eq_true.mp h2 c hc
  obtain ⟨_, h6⟩ := Bool.and_eq_true_iff.mp this
  exact Nat.lt_of_le_of_lt (of_decide_eq_true h6) (by decide)
/-! ### the checks, where all is right -/
def spNeedName : Sp := fun vs H Q _ => ∃ z : Str, vs = [.str z] ∧ wordB z = true ∧ ∀ H', Same H H' → Q .non H'
def spNeedLevel : Sp := fun vs H Q _ => ∃ i : Int, vs = [.int i] ∧ ∀ H', Same H H' → Q .non H'
def spNeedO : Sp := fun vs H Q _ => ∃ o : Option Str, vs = [oV o] ∧ okO o ∧ ∀ H', Same H H' → Q .non H'
theorem scNeedName : FnScope ["value"] ["value"] (defScope sNeedName) := ⟨rfl, rfl, rfl, by decide +kernel, rfl, by decide +kernel, by decide +kernel⟩
theorem ok_need_name {f fN : Addr} {fd fdN : FuncData} {tN : Tok} (F : Fun K "need_name" "need_name" sNeedName f fd) (T : Txt mg) (DN : DefAt K mg "is_name" sIsName ["value"] fN fdN) (mgLONGEST_NAME : mg "LONGEST_NAME" = some (.int 8 tN)) : FnOk P w K mg base CX0 2 f fd ["value"] spNeedName := by
  have GN : FnOk P w K mg base CX0 1 fN fdN ["value"] (spTest nameD) := ok_is_name DN.F T mgLONGEST_NAME
  refine F.ok scNeedName (fun vs H Q E h => ?_) (fun cdv A outer s H vs Q E hr h => ?_)
  · obtain ⟨z, rfl, _⟩ := h
    rfl
  · obtain ⟨z, rfl, hz, q⟩ := h
    have nd := scNeedName.nd
    refine ⟨_, (pss_one (ps_if (pt_not (pt_val (pe_call GN (hr.mono (by decide)) (by rfl) DN.M DN.F.kp DN.B .nil pass0 (pa_cons (pv 0) pa_nil))))
      (pss_one ps_never)
      pss_nil)), ?_⟩
    refine ⟨_, rfl, _, _, fun _ => False, rfl, .str z, word_sm hz, fun H1 s1 => ⟨_, rfl, ?_⟩⟩
    rw [show nameD (.str z) = true from hz]
    exact iteF (q H1 s1)
theorem scNeedLevel : FnScope ["value"] ["value"] (defScope sNeedLevel) := ⟨rfl, rfl, rfl, by decide +kernel, rfl, by decide +kernel, by decide +kernel⟩
theorem ok_need_level {f fL : Addr} {fd fdL : FuncData} (F : Fun K "need_level" "need_level" sNeedLevel f fd) (T : Txt mg) (DL : DefAt K mg "is_level" sIsLevel ["value"] fL fdL) : FnOk P w K mg base CX0 2 f fd ["value"] spNeedLevel := by
  have GL : FnOk P w K mg base CX0 1 fL fdL ["value"] (spTest levelD) := ok_is_level DL.F T
  refine F.ok scNeedLevel (fun vs H Q E h => ?_) (fun cdv A outer s H vs Q E hr h => ?_)
  · obtain ⟨z, rfl, _⟩ := h
    rfl
  · obtain ⟨z, rfl, q⟩ := h
    have nd := scNeedLevel.nd
    refine ⟨_, (pss_one (ps_if (pt_not (pt_val (pe_call GL (hr.mono (by decide)) (by rfl) DL.M DL.F.kp DL.B .nil pass0 (pa_cons (pv 0) pa_nil))))
      (pss_one ps_never)
      pss_nil)), ?_⟩
    refine ⟨_, rfl, _, _, fun _ => False, rfl, .int z, trivial, fun H1 s1 => ⟨_, rfl, ?_⟩⟩
    exact iteF (q H1 s1)
theorem scNeedO : FnScope ["value"] ["value"] (defScope sNeedNameOrNone) := ⟨rfl, rfl, rfl, by decide +kernel, rfl, by decide +kernel, by decide +kernel⟩
theorem ok_need_o {f fN fNN : Addr} {fd fdN fdNN : FuncData} {tN : Tok} (F : Fun K "need_name_or_none" "need_name_or_none" sNeedNameOrNone f fd) (T : Txt mg) (DN : DefAt K mg "is_name" sIsName ["value"] fN fdN) (DNN : DefAt K mg "need_name" sNeedName ["value"] fNN fdNN) (mgLONGEST_NAME : mg "LONGEST_NAME" = some (.int 8 tN)) : FnOk P w K mg base CX0 3 f fd ["value"] spNeedO := by
  have GNN : FnOk P w K mg base CX0 2 fNN fdNN ["value"] spNeedName := ok_need_name DNN.F T DN mgLONGEST_NAME
  refine F.ok scNeedO (fun vs H Q E h => ?_) (fun cdv A outer s H vs Q E hr h => ?_)
  · obtain ⟨z, rfl, _⟩ := h
    rfl
  · obtain ⟨o, rfl, ho, q⟩ := h
    have nd := scNeedO.nd
    refine ⟨_, (pss_one (ps_if (pt_cmpR op_notN (pv 0) pe_non (nomark _))
      (pss_one (ps_expr (pe_call GNN (hr.mono (by decide)) (by rfl) DNN.M DNN.F.kp DNN.B .nil pass0 (pa_cons (pv 0) pa_nil))))
      pss_nil)), ?_⟩
    cases o with
    | none => exact ⟨_, rfl, rfl, _, rfl, iteF (q H (Same.refl H))⟩
    | some z => exact ⟨_, rfl, rfl, _, rfl, iteT ⟨_, rfl, z, rfl, ho z rfl, fun H1 s1 => q H1 s1⟩⟩
/-! ### is_bed, merges, are_beds -/
def spIsBed : Sp := fun vs H Q _ => ∃ (a : Addr) (b : Bed), vs = [.ref a] ∧ H a = some (.tup (bedV b)) ∧ GoodB b ∧ ∀ H', Same H H' → Q (.bl true) H'
def spMerges : Sp := fun vs H Q _ => ∃ (a : Addr) (b : Bed) (r : Str), vs = [.ref a, .str r] ∧ H a = some (.tup (bedV b)) ∧ Q (.bl (decide (b.rock = r ∧ b.mark = none))) H
theorem scIsBed : FnScope ["value", "rock", "thickness", "mark"] ["value"] (defScope sIsBed) := ⟨rfl, rfl, rfl, by decide +kernel, rfl, by decide +kernel, by decide +kernel⟩
theorem ok_is_bed {f fN fL : Addr} {fd fdN fdL : FuncData} {tN : Tok} (F : Fun K "is_bed" "is_bed" sIsBed f fd) (T : Txt mg) (DN : DefAt K mg "is_name" sIsName ["value"] fN fdN) (DL : DefAt K mg "is_level" sIsLevel ["value"] fL fdL) (mgLONGEST_NAME : mg "LONGEST_NAME" = some (.int 8 tN)) : FnOk P w K mg base CX0 2 f fd ["value"] spIsBed := by
  have GN : FnOk P w K mg base CX0 1 fN fdN ["value"] (spTest nameD) := ok_is_name DN.F T mgLONGEST_NAME
  have GL : FnOk P w K mg base CX0 1 fL fdL ["value"] (spTest levelD) := ok_is_level DL.F T
  refine F.ok scIsBed (fun vs H Q E h => ?_) (fun cdv A outer s H vs Q E hr h => ?_)
  · obtain ⟨a, b, rfl, _⟩ := h
    rfl
  · obtain ⟨a, b, rfl, ha, G, q⟩ := h
    have nd := scIsBed.nd
    refine ⟨_, (C8.pss_cut (ps_if (PW.pt (pw_or (pt_not (pt_val (pe_callB call_isi (by rfl) T.isinstance (by decide +kernel) (pa_cons (pv 0) (pa_cons (pe_bltn (v := .ty "tuple") (by rfl) T.tuple (by decide +kernel) rfl) pa_nil))))) (pw_or1 (pt_cmpR op_ne (pe_callB call_len_seq (by rfl) T.len (by decide +kernel) (pa_cons (pv 0) pa_nil)) pe_int (nomark _)))))
      (pss_one (ps_ret pe_bl))
      pss_nil)
    (pss_cons (ps_asg (pv 0) (pg_tup rfl (pgs_cons (pg_name (i := 1) nd rfl (.inl rfl)) (pgs_cons (pg_name (i := 2) nd rfl (.inl rfl)) (pgs_cons (pg_name (i := 3) nd rfl (.inl rfl)) pgs_nil)))))
    (C8.pss_cut (ps_if (PW.pt (pw_or (pt_not (pt_val (pe_call GN (hr.mono (by decide)) (by rfl) DN.M DN.F.kp DN.B .nil pass0 (pa_cons (pv 1) pa_nil)))) (pw_or (pt_not (pt_val (pe_call GL (hr.mono (by decide)) (by rfl) DL.M DL.F.kp DL.B .nil pass0 (pa_cons (pv 2) pa_nil)))) (pw_or1 (pt_cmpR op_lt (pv 2) pe_int (nomark _))))))
      (pss_one (ps_ret pe_bl))
      pss_nil)
    (pss_one (ps_ret (pe_or (pe_cmpR op_isN (pv 3) pe_non (nomark _)) (pe_one (pe_call GN (hr.mono (by decide)) (by rfl) DN.M DN.F.kp DN.B .nil pass0 (pa_cons (pv 3) pa_nil))))))))), ?_⟩
    refine ⟨fun σ H' => H' = H ∧ σ = [some (.ref a), none, none, none], ?_, ?_⟩
    · refine ⟨_, rfl, _, .ty "tuple", .type "tuple", _, true, rfl, .ty "tuple", .base (.tup ha), kit_ty (by decide +kernel), _, rfl, ?_⟩
      refine iteF ⟨.ref a, rfl, a, _, rfl, .inr (.inl (.inl ha)), rfl, _, rfl, iteNS rfl ⟨rfl, rfl⟩⟩
    rintro σ H' ⟨rfl, rfl⟩
    refine ⟨.ref a, rfl, a, _, rfl, .inl (.inl ha), rfl, _, _, rfl, _, _, rfl, _, _, rfl, rfl, ?_⟩
    refine ⟨fun σ H1 => Same H' H1 ∧ σ = [some (.ref a), some (.str b.rock), some (.int b.th), some (oV b.mark)], ?_, ?_⟩
    · refine ⟨_, rfl, _, _, fun _ => False, rfl, .str b.rock, word_sm G.rock, fun H1 s1 => ⟨_, rfl, ?_⟩⟩
      rw [show nameD (.str b.rock) = true from G.rock]
      refine iteF ⟨_, rfl, _, _, fun _ => False, rfl, .int b.th, trivial, fun H2 s2 => ⟨_, rfl, ?_⟩⟩
      refine iteF ⟨_, rfl, _, _, rfl, rfl, _, rfl, ?_⟩
      rw [decide_eq_false (show ¬ b.th < 1 by have := G.th; omega)]
      exact iteF ⟨s1.trans s2, rfl⟩
    rintro σ H1 ⟨s1, rfl⟩
    obtain ⟨rock, th, mark⟩ := b
    cases mark with
    | none => exact ⟨_, rfl, rfl, _, rfl, iteT (q H1 s1)⟩
    | some z =>
      refine ⟨_, rfl, rfl, _, rfl, iteF ⟨_, rfl, _, _, fun _ => False, rfl, .str z, word_sm (G.mark z rfl), fun H2 s2 => ?_⟩⟩
      rw [show nameD (.str z) = true from G.mark z rfl]
      exact q H2 (s1.trans s2)
theorem scMerges : FnScope ["bed", "rock"] ["bed", "rock"] (defScope sMerges) := ⟨rfl, rfl, rfl, by decide +kernel, rfl, by decide +kernel, by decide +kernel⟩
theorem ok_merges {f : Addr} {fd : FuncData} (F : Fun K "merges" "merges" sMerges f fd) : FnOk P w K mg base CX0 1 f fd ["bed", "rock"] spMerges := by
  refine F.ok scMerges (fun vs H Q E h => ?_) (fun cdv A outer s H vs Q E hr h => ?_)
  · obtain ⟨a, b, r, rfl, _⟩ := h
    rfl
  · obtain ⟨a, b, r, rfl, ha, q⟩ := h
    have nd := scMerges.nd
    refine ⟨_, (pss_one (ps_ret (pe_and (pe_cmpR op_eq (pe_ix ix_tup (pv 0) pe_int (fun _ _ => rfl)) (pv 1) (nomark _)) (pe_one (pe_cmpR op_isN (pe_ix ix_tup (pv 0) pe_int (fun _ _ => rfl)) pe_non (nomark _)))))), ?_⟩
    refine ⟨.ref a, rfl, a, bedV b, 0, .str b.rock, rfl, rfl, .inl (.inl ha), rfl, .str r, rfl, rfl, _, rfl, ite2 (fun h => ?_) (fun h => ?_)⟩
    · have e : b.rock = r := V.str.inj (of_decide_eq_true h)
      refine ⟨.ref a, rfl, a, bedV b, 2, oV b.mark, rfl, rfl, .inl (.inl ha), rfl, rfl, ?_⟩
      have e2 : decide (b.rock = r ∧ b.mark = none) = decide (oV b.mark = V.non) := by
        refine decide_eq_decide.mpr ⟨fun z => by rw [z.2]; rfl, fun z => ⟨e, ?_⟩⟩
        cases hm : b.mark with
        | none => rfl
        | some y => rw [hm] at z; cases z
      rw [e2] at q
      exact q
    · have e : ¬ (b.rock = r ∧ b.mark = none) := fun z => h (decide_eq_true (by rw [z.1]))
      rw [decide_eq_false e] at q
      exact q
/-! a walk over two tuples side by side -/
theorem walk_zipT {K : PySem.W.Frag} {a b : Addr} {xs ys : List V} {n : Nat} (hn : n = min xs.length ys.length) : Walk (RZ.ItzT K a b) n (fun H => SqT K H a xs ∧ SqT K H b ys) (YPair (fun i => xs[i]?) (fun i => ys[i]?)) := by
  subst hn
  refine ⟨fun i H hi g => ⟨xs, ys, xs[i]'(by omega), ys[i]'(by omega), g.1, g.2, List.getElem?_eq_getElem (by omega), List.getElem?_eq_getElem (by omega)⟩, fun H g => ⟨xs, ys, g.1, g.2, ?_⟩, fun i H x H' hi g y => ?_⟩
  · by_cases h : xs.length ≤ ys.length
    · exact .inl (by omega)
    · exact .inr (by omega)
  · obtain ⟨t, u, v, e1, e2, e3, e4, e5⟩ := y
    exact ⟨t, u, v, e1, e2, e3, e4 xs g.1, e5 ys g.2⟩
theorem cut_one (xs : List V) : cutV xs (some 1) none = xs.drop 1 := by
  unfold cutV
  rw [show HT.sIx xs.length 0 (some 1) = min 1 xs.length from HT.sIx_nat xs.length 0 1, HT.sIx_none]
  cases xs with
  | nil => rfl
  | cons x r =>
    rw [show min 1 (x :: r).length = 1 by rw [List.length_cons]; omega]
    show List.take ((x :: r).length - 1) r = r
    rw [List.length_cons, Nat.add_sub_cancel]
    exact List.take_length
/-- a row of beds at a, a list or a tuple -/
def spAreL : Sp := fun vs H Q _ => ∃ (a : Addr) (xs : List V) (bs : List Bed) (X : Addr → Prop), vs = [.ref a] ∧ H a = some (.lst xs) ∧ DVs X H xs (bs.map bedD) ∧ GoodBs bs ∧ bs.length ≤ 900 ∧ ∀ H', Same H H' → Q (.bl true) H'
def spAreT (K : PySem.W.Frag) : Sp := fun vs H Q _ => ∃ (a : Addr) (xs : List V) (bs : List Bed) (X : Addr → Prop), vs = [.ref a] ∧ SqT K H a xs ∧ TyX K H (.ref a) (.type "tuple") ∧ DVs X H xs (bs.map bedD) ∧ GoodBs bs ∧ bs.length ≤ 900 ∧ ∀ H', Same H H' → Q (.bl true) H'
theorem scAre : FnScope ["value", "bed", "lower", "upper"] ["value"] (defScope sAreBeds) := ⟨rfl, rfl, rfl, by decide +kernel, rfl, by decide +kernel, by decide +kernel⟩
theorem kit_lt {a : String} (h1 : kitB a "list" = some false) (h2 : kitB a "tuple" = some true) : PySem.W.kitAny K (.type a) [.type "list", .type "tuple"] = some true :=
  kitAny_cons (kit_ty h1) (fun _ => kitAny_cons (kit_ty h2) (fun h => Bool.noConfusion h) (fun _ => rfl)) (fun h => Bool.noConfusion h)
theorem same_seqT {H H' : Hp} {a : Addr} {xs : List V} (s : Same H H') (h : SqT K H a xs) : SqT K H' a xs := by
  rcases h with (h | ⟨o, h⟩) | h
  · exact .inl (.inl (s _ _ h))
  · exact .inl (.inr ⟨o, s _ _ h⟩)
  · exact .inr h
theorem same_dvs {X : Addr → Prop} {H H' : Hp} {xs : List V} {ds : List PyData} (s : Same H H') (h : DVs X H xs ds) : DVs X H' xs ds := h.keep fun b o nb e => ⟨s _ _ e, nb⟩
theorem same_ty {K : PySem.W.Frag} {H H' : Hp} {v : V} {T : String} (s : Same H H') (h : TyX K H v (.type T)) : TyX K H' v (.type T) := by
  cases h with
  | base h =>
    refine .base ?_
    cases h with
    | non => exact .non
    | bl b => exact .bl b
    | int i => exact .int i
    | str x => exact .str x
    | flt x => exact .flt x
    | lst e => exact .lst (s _ _ e)
    | frz e => exact .frz (s _ _ e)
    | tup e => exact .tup (s _ _ e)
    | dK e => exact .dK (s _ _ e)
    | dT e => exact .dT (s _ _ e)
  | byt b => exact .byt b
  | set e => exact .set (s _ _ e)
  | kList e c => exact .kList e c
  | kTuple e c => exact .kTuple e c
  | kDict e c => exact .kDict e c
  | fTuple e => exact .fTuple (s _ _ e)
  | fDict e => exact .fDict (s _ _ e)
theorem ok_areL {f fB fM fN fL : Addr} {fd fdB fdM fdN fdL : FuncData} {tN : Tok} (F : Fun K "are_beds" "are_beds" sAreBeds f fd) (T : Txt mg) (DB : DefAt K mg "is_bed" sIsBed ["value"] fB fdB) (DM : DefAt K mg "merges" sMerges ["bed", "rock"] fM fdM)
    (DN : DefAt K mg "is_name" sIsName ["value"] fN fdN) (DL : DefAt K mg "is_level" sIsLevel ["value"] fL fdL) (mgLONGEST_NAME : mg "LONGEST_NAME" = some (.int 8 tN)) : FnOk P w K mg base CX0 3 f fd ["value"] spAreL := by
  have GB : FnOk P w K mg base CX0 2 fB fdB ["value"] spIsBed := ok_is_bed DB.F T DN DL mgLONGEST_NAME
  have GM : FnOk P w K mg base CX0 1 fM fdM ["bed", "rock"] spMerges := ok_merges DM.F
  refine F.ok scAre (fun vs H Q E h => ?_) (fun cdv A outer s H vs Q E hr h => ?_)
  · obtain ⟨a, xs, bs, X, rfl, _⟩ := h
    rfl
  · obtain ⟨a, xs, bs, X, rfl, ha, S, G, hl, q⟩ := h
    have nd := scAre.nd
    have hlen := beds_len S
    refine ⟨_, (pss_cons (ps_if (pt_not (pt_val (pe_callB call_isiT (by rfl) T.isinstance (by decide +kernel) (pa_cons (pv 0) (pa_cons (pe_tup (pa_cons (pe_bltn (v := .ty "list") (by rfl) T.list (by decide +kernel) rfl) (pa_cons (pe_bltn (v := .ty "tuple") (by rfl) T.tuple (by decide +kernel) rfl) pa_nil))) pa_nil)))))
      (pss_one (ps_ret pe_bl))
      pss_nil)
    (pss_cons (ps_if (pt_not (pt_val (pe_callB (cr_all rfl) (by rfl) T.all (by decide +kernel) (pa_cons (pe_lc (own := [("bed", 1)]) (g := gName 1) (by rfl) nd (pi_list (pv 0)) (blkOk_by (own := [("bed", 1)]) (N := ["value", "bed", "lower", "upper"]) (sc := defScope sAreBeds) (by decide +kernel)) (fun _ _ _ _ _ => (pg_name (i := 1) nd rfl (Or.inl rfl))) (fun _ _ _ _ _ => pts_nil) (fun _ _ _ _ _ => (pe_call GB (hr.mono (by decide)) (by rfl) DB.M DB.F.kp DB.B .nil pass0 (pa_cons (pv 1) pa_nil)))) pa_nil))))
      (pss_one (ps_ret pe_bl))
      pss_nil)
    (pss_one (ps_ret (pe_not (pe_callB (cr_any rfl) (by rfl) T.any (by decide +kernel) (pa_cons (pe_lc (own := [("lower", 2), ("upper", 3)]) (g := gTup K 2 (gCons (gName 2) (gCons (gName 3) gNil))) (by rfl) nd (pi_zip (by rfl) T.zip (pa_cons (pv 0) (pa_cons (pe_slice sl_list (pv 0) (po_some pe_int) po_none) pa_nil))) (blkOk_by (own := [("lower", 2), ("upper", 3)]) (N := ["value", "bed", "lower", "upper"]) (sc := defScope sAreBeds) (by decide +kernel)) (fun _ _ _ _ _ => (pg_tup rfl (pgs_cons (pg_name (i := 2) nd rfl (.inl rfl) (.inr rfl)) (pgs_cons (pg_name (i := 3) nd rfl (.inl rfl) (.inr rfl)) pgs_nil)))) (fun _ _ _ _ _ => pts_nil) (fun _ _ _ _ _ => (pe_call GM (hr.mono (by decide)) (by rfl) DM.M DM.F.kp DM.B .nil pass0 (pa_cons (pv 2) (pa_cons (pe_ix (show IxR _ (rIxT K) from ix_tup) (pv 3) pe_int (fun _ _ => rfl)) pa_nil))))) pa_nil))))))), ?_⟩
    -- isinstance(value, (list, tuple))
    refine ⟨_, rfl, (by show 2 ≤ sizeLine; decide), fun p np => ⟨_, p, _, .type "list", [.type "list", .type "tuple"], true, rfl, upd_same, .cons (.ty _) (.cons (.ty _) .nil), .base (.lst (new_same np _ _ ha)),
      kitAny_cons (b := true) (kit_ty (show kitB "list" "list" = some true by decide +kernel)) (fun h => Bool.noConfusion h) (fun _ => rfl), _, rfl, ?_⟩⟩
    refine iteF ?_
    -- all([is_bed(bed) ..])
    refine ⟨_, rfl, a, rfl, ⟨_, .inl (.inl (new_same np _ _ ha))⟩, fun D nD => ?_⟩
    refine lc_list (K := K) (a := a) (xs := xs) (fun i Hi => Hi D = some (.lst ((List.replicate i true).map V.bl)) ∧ ∀ b o, b ≠ D → H b = some o → Hi b = some o) ⟨upd_same, fun b o nb e => by rw [upd_ne nb]; exact new_same np _ _ e⟩ (fun i Hi _ ⟨_, k⟩ => .inl (.inl (k _ _ (ne_of_none (new_same np _ _ ha) nD) ha))) ?_ ?_
    · rintro i x Hi hx ⟨hD, k⟩
      have nDH : ∀ b o, H b = some o → b ≠ D := fun b o e => ne_of_none (new_same np _ _ e) nD
      obtain ⟨bd, ab, hb, rfl, _, hab⟩ := beds_get S hx
      refine ⟨rfl, _, rfl, ab, bd, rfl, k _ _ (nDH _ _ hab) hab, G.all _ (List.mem_of_getElem? hb), fun H1 s1 => ?_⟩
      have hi : i < bs.length := (List.getElem?_eq_some_iff.mp hb).1
      refine ⟨_, s1 _ _ hD, by rw [List.length_map, List.length_replicate]; exact small1000 (by omega), ?_, fun b o nb e => by rw [upd_ne nb]; exact s1 _ _ (k b o nb e)⟩
      rw [upd_same, List.replicate_succ', List.map_append]
      rfl
    rintro H2 ⟨hD, k2⟩
    have s2 : Same H H2 := fun b o e => k2 b o (ne_of_none (new_same np _ _ e) nD) e
    have e1 : (List.replicate xs.length true).all id = true := by
      rw [List.all_eq_true]
      intro x hx
      rw [(List.mem_replicate.mp hx).2]
      rfl
    refine ⟨D, _, rfl, .inl (.inl hD), _, rfl, ?_⟩
    rw [e1]
    refine iteF ?_
    -- not any([merges(..) ..])
    refine ⟨_, rfl, _, rfl, 1, rfl, a, xs, rfl, .inl (.inl (s2 _ _ ha)), fun p2 np2 => ?_⟩
    rw [cut_one]
    have s3 : Same H2 (upd H2 p2 (.lst (xs.drop 1))) := new_same np2
    refine ⟨a, p2, xs, xs.drop 1, rfl, .inl (.inl (s3 _ _ (s2 _ _ ha))), .inl (.inl upd_same), fun D2 nD2 => ?_⟩
    have hp2 : (upd H2 p2 (.lst (xs.drop 1))) p2 = some (.lst (xs.drop 1)) := upd_same
    generalize upd H2 p2 (.lst (xs.drop 1)) = H3 at s3 hp2 nD2 ⊢
    have s03 := s2.trans s3
    refine lc_it (walk_zip (xs := xs) (ys := xs.drop 1) (n := xs.length - 1) (by rw [List.length_drop]; omega)) (fun i Hi => Hi D2 = some (.lst ((List.replicate i false).map V.bl)) ∧ ∀ b o, b ≠ D2 → H3 b = some o → Hi b = some o) ⟨upd_same, fun b o nb e => by rw [upd_ne nb]; exact e⟩
      (fun i Hi _ ⟨_, k⟩ => ⟨.inl (.inl (k _ _ (ne_of_none (s03 _ _ ha) nD2) (s03 _ _ ha))), .inl (.inl (k _ _ (ne_of_none hp2 nD2) hp2))⟩) ?_ ?_
    · rintro i y Hi Hj hi ⟨hD2, k⟩ ⟨t, x1, x2, rfl, nt, rfl, f1, f2⟩
      have nDH : ∀ b o, H b = some o → b ≠ D2 := fun b o e => ne_of_none (s03 _ _ e) nD2
      have f2' : xs[i + 1]? = some x2 := by
        have h : (xs.drop 1)[i]? = some x2 := f2
        rwa [List.getElem?_drop, Nat.add_comm] at h
      obtain ⟨b1, a1, hb1, rfl, _, ha1⟩ := beds_get S f1
      obtain ⟨b2, a2, hb2, rfl, _, ha2⟩ := beds_get S f2'
      have st : Same Hi (upd Hi t (.tup [.ref a1, .ref a2])) := new_same nt
      have g1 := st _ _ (k _ _ (nDH _ _ ha1) (s03 _ _ ha1))
      have g2 := st _ _ (k _ _ (nDH _ _ ha2) (s03 _ _ ha2))
      have gD := st _ _ hD2
      have nm : decide (b1.rock = b2.rock ∧ b1.mark = none) = false := decide_eq_false (apart_at G.apart hb1 hb2)
      refine ⟨t, _, rfl, .inl (.inl upd_same), rfl, _, _, rfl, _, _, rfl, rfl, ?_⟩
      refine ⟨rfl, _, rfl, _, rfl, a2, bedV b2, 0, .str b2.rock, rfl, rfl, .inl (.inl g2), rfl, a1, b1, b2.rock, rfl, g1, ?_⟩
      rw [nm]
      refine ⟨_, gD, by rw [List.length_map, List.length_replicate]; exact small1000 (by omega), ?_, fun b o nb e => by rw [upd_ne nb]; exact st _ _ (k b o nb e)⟩
      rw [upd_same, List.replicate_succ', List.map_append]
      rfl
    rintro H4 ⟨hD4, k4⟩
    have e2 : (List.replicate (xs.length - 1) false).any id = false := by
      rw [List.any_eq_false]
      intro x hx
      rw [(List.mem_replicate.mp hx).2]
      exact Bool.false_ne_true
    refine ⟨D2, _, rfl, .inl (.inl hD4), ?_⟩
    rw [e2]
    exact ⟨_, rfl, q H4 fun b o e => k4 b o (ne_of_none (s03 _ _ e) nD2) (s03 _ _ e)⟩
theorem ok_areT {f fB fM fN fL : Addr} {fd fdB fdM fdN fdL : FuncData} {tN : Tok} (F : Fun K "are_beds" "are_beds" sAreBeds f fd) (T : Txt mg) (DB : DefAt K mg "is_bed" sIsBed ["value"] fB fdB) (DM : DefAt K mg "merges" sMerges ["bed", "rock"] fM fdM)
    (DN : DefAt K mg "is_name" sIsName ["value"] fN fdN) (DL : DefAt K mg "is_level" sIsLevel ["value"] fL fdL) (mgLONGEST_NAME : mg "LONGEST_NAME" = some (.int 8 tN)) : FnOk P w K mg base CX0 3 f fd ["value"] (spAreT K) := by
  have GB : FnOk P w K mg base CX0 2 fB fdB ["value"] spIsBed := ok_is_bed DB.F T DN DL mgLONGEST_NAME
  have GM : FnOk P w K mg base CX0 1 fM fdM ["bed", "rock"] spMerges := ok_merges DM.F
  refine F.ok scAre (fun vs H Q E h => ?_) (fun cdv A outer s H vs Q E hr h => ?_)
  · obtain ⟨a, xs, bs, X, rfl, _⟩ := h
    rfl
  · obtain ⟨a, xs, bs, X, rfl, ha, hty, S, G, hl, q⟩ := h
    have nd := scAre.nd
    have hlen := beds_len S
    refine ⟨_, (pss_cons (ps_if (pt_not (pt_val (pe_callB call_isiT (by rfl) T.isinstance (by decide +kernel) (pa_cons (pv 0) (pa_cons (pe_tup (pa_cons (pe_bltn (v := .ty "list") (by rfl) T.list (by decide +kernel) rfl) (pa_cons (pe_bltn (v := .ty "tuple") (by rfl) T.tuple (by decide +kernel) rfl) pa_nil))) pa_nil)))))
      (pss_one (ps_ret pe_bl))
      pss_nil)
    (pss_cons (ps_if (pt_not (pt_val (pe_callB (cr_all rfl) (by rfl) T.all (by decide +kernel) (pa_cons (pe_lc (own := [("bed", 1)]) (g := gName 1) (by rfl) nd (pi_tup (pv 0)) (blkOk_by (own := [("bed", 1)]) (N := ["value", "bed", "lower", "upper"]) (sc := defScope sAreBeds) (by decide +kernel)) (fun _ _ _ _ _ => (pg_name (i := 1) nd rfl (Or.inl rfl))) (fun _ _ _ _ _ => pts_nil) (fun _ _ _ _ _ => (pe_call GB (hr.mono (by decide)) (by rfl) DB.M DB.F.kp DB.B .nil pass0 (pa_cons (pv 1) pa_nil)))) pa_nil))))
      (pss_one (ps_ret pe_bl))
      pss_nil)
    (pss_one (ps_ret (pe_not (pe_callB (cr_any rfl) (by rfl) T.any (by decide +kernel) (pa_cons (pe_lc (own := [("lower", 2), ("upper", 3)]) (g := gTup K 2 (gCons (gName 2) (gCons (gName 3) gNil))) (by rfl) nd (RZ.pi_zipA (by rfl) T.zip (pa_cons (pv 0) (pa_cons (pe_slice sl_tupA (pv 0) (po_some pe_int) po_none) pa_nil))) (blkOk_by (own := [("lower", 2), ("upper", 3)]) (N := ["value", "bed", "lower", "upper"]) (sc := defScope sAreBeds) (by decide +kernel)) (fun _ _ _ _ _ => (pg_tup rfl (pgs_cons (pg_name (i := 2) nd rfl (.inl rfl) (.inr rfl)) (pgs_cons (pg_name (i := 3) nd rfl (.inl rfl) (.inr rfl)) pgs_nil)))) (fun _ _ _ _ _ => pts_nil) (fun _ _ _ _ _ => (pe_call GM (hr.mono (by decide)) (by rfl) DM.M DM.F.kp DM.B .nil pass0 (pa_cons (pv 2) (pa_cons (pe_ix (show IxR _ (rIxT K) from ix_tup) (pv 3) pe_int (fun _ _ => rfl)) pa_nil))))) pa_nil))))))), ?_⟩
    -- isinstance(value, (list, tuple))
    refine ⟨_, rfl, (by show 2 ≤ sizeLine; decide), fun p np => ⟨_, p, _, .type "tuple", [.type "list", .type "tuple"], true, rfl, upd_same, .cons (.ty _) (.cons (.ty _) .nil), same_ty (new_same np) hty,
      kit_lt (by decide +kernel) (by decide +kernel), _, rfl, ?_⟩⟩
    refine iteF ?_
    -- all([is_bed(bed) ..])
    refine ⟨_, rfl, a, rfl, ⟨_, same_seqT (new_same np) ha⟩, fun D nD => ?_⟩
    refine lc_tup (K := K) (a := a) (xs := xs) (fun i Hi => Hi D = some (.lst ((List.replicate i true).map V.bl)) ∧ ∀ b o, b ≠ D → H b = some o → Hi b = some o) ⟨upd_same, fun b o nb e => by rw [upd_ne nb]; exact new_same np _ _ e⟩ (fun i Hi _ ⟨_, k⟩ => same_seqT (fun b o e => k b o (ne_of_none (new_same np _ _ e) nD) e) ha) ?_ ?_
    · rintro i x Hi hx ⟨hD, k⟩
      have nDH : ∀ b o, H b = some o → b ≠ D := fun b o e => ne_of_none (new_same np _ _ e) nD
      obtain ⟨bd, ab, hb, rfl, _, hab⟩ := beds_get S hx
      refine ⟨rfl, _, rfl, ab, bd, rfl, k _ _ (nDH _ _ hab) hab, G.all _ (List.mem_of_getElem? hb), fun H1 s1 => ?_⟩
      have hi : i < bs.length := (List.getElem?_eq_some_iff.mp hb).1
      refine ⟨_, s1 _ _ hD, by rw [List.length_map, List.length_replicate]; exact small1000 (by omega), ?_, fun b o nb e => by rw [upd_ne nb]; exact s1 _ _ (k b o nb e)⟩
      rw [upd_same, List.replicate_succ', List.map_append]
      rfl
    rintro H2 ⟨hD, k2⟩
    have s2 : Same H H2 := fun b o e => k2 b o (ne_of_none (new_same np _ _ e) nD) e
    have e1 : (List.replicate xs.length true).all id = true := by
      rw [List.all_eq_true]
      intro x hx
      rw [(List.mem_replicate.mp hx).2]
      rfl
    refine ⟨D, _, rfl, .inl (.inl hD), _, rfl, ?_⟩
    rw [e1]
    refine iteF ?_
    -- not any([merges(..) ..])
    refine ⟨_, rfl, _, rfl, 1, rfl, a, xs, rfl, same_seqT s2 ha, fun hw => ?_, fun hw p2 np2 => ?_⟩
    · have h0 : xs = [] := by
        have h1 := hw.1
        rw [show HT.sIx xs.length 0 (some 1) = min 1 xs.length from HT.sIx_nat xs.length 0 1] at h1
        exact List.eq_nil_of_length_eq_zero (by omega)
      subst h0
      refine ⟨a, a, [], [], rfl, .inr ⟨same_seqT s2 ha, same_seqT s2 ha, fun D2 nD2 => ?_⟩⟩
      refine lc_it (walk_zipT (xs := []) (ys := []) (n := 0) rfl) (fun i Hi => Hi D2 = some (.lst []) ∧ ∀ b o, b ≠ D2 → H2 b = some o → Hi b = some o) ⟨upd_same, fun b o nb e => by rw [upd_ne nb]; exact e⟩
        (fun i Hi _ ⟨_, k⟩ => ⟨same_seqT (fun b o e => k b o (ne_of_none (s2 _ _ e) nD2) (s2 _ _ e)) ha, same_seqT (fun b o e => k b o (ne_of_none (s2 _ _ e) nD2) (s2 _ _ e)) ha⟩) (fun i y Hi Hj hi => absurd hi (Nat.not_lt_zero _)) ?_
      rintro H4 ⟨hD4, k4⟩
      exact ⟨D2, [], rfl, .inl (.inl hD4), _, rfl, q H4 fun b o e => k4 b o (ne_of_none (s2 _ _ e) nD2) (s2 _ _ e)⟩
    rw [cut_one]
    have s3 : Same H2 (upd H2 p2 (.tup (xs.drop 1))) := new_same np2
    refine ⟨a, p2, xs, xs.drop 1, rfl, .inr ⟨same_seqT (s2.trans s3) ha, .inl (.inl upd_same), fun D2 nD2 => ?_⟩⟩
    have hp2 : (upd H2 p2 (.tup (xs.drop 1))) p2 = some (.tup (xs.drop 1)) := upd_same
    generalize upd H2 p2 (.tup (xs.drop 1)) = H3 at s3 hp2 nD2 ⊢
    have s03 := s2.trans s3
    refine lc_it (walk_zipT (xs := xs) (ys := xs.drop 1) (n := xs.length - 1) (by rw [List.length_drop]; omega)) (fun i Hi => Hi D2 = some (.lst ((List.replicate i false).map V.bl)) ∧ ∀ b o, b ≠ D2 → H3 b = some o → Hi b = some o) ⟨upd_same, fun b o nb e => by rw [upd_ne nb]; exact e⟩
      (fun i Hi _ ⟨_, k⟩ => ⟨same_seqT (fun b o e => k b o (ne_of_none (s03 _ _ e) nD2) (s03 _ _ e)) ha, .inl (.inl (k _ _ (ne_of_none hp2 nD2) hp2))⟩) ?_ ?_
    · rintro i y Hi Hj hi ⟨hD2, k⟩ ⟨t, x1, x2, rfl, nt, rfl, f1, f2⟩
      have nDH : ∀ b o, H b = some o → b ≠ D2 := fun b o e => ne_of_none (s03 _ _ e) nD2
      have f2' : xs[i + 1]? = some x2 := by
        have h : (xs.drop 1)[i]? = some x2 := f2
        rwa [List.getElem?_drop, Nat.add_comm] at h
      obtain ⟨b1, a1, hb1, rfl, _, ha1⟩ := beds_get S f1
      obtain ⟨b2, a2, hb2, rfl, _, ha2⟩ := beds_get S f2'
      have st : Same Hi (upd Hi t (.tup [.ref a1, .ref a2])) := new_same nt
      have g1 := st _ _ (k _ _ (nDH _ _ ha1) (s03 _ _ ha1))
      have g2 := st _ _ (k _ _ (nDH _ _ ha2) (s03 _ _ ha2))
      have gD := st _ _ hD2
      have nm : decide (b1.rock = b2.rock ∧ b1.mark = none) = false := decide_eq_false (apart_at G.apart hb1 hb2)
      refine ⟨t, _, rfl, .inl (.inl upd_same), rfl, _, _, rfl, _, _, rfl, rfl, ?_⟩
      refine ⟨rfl, _, rfl, _, rfl, a2, bedV b2, 0, .str b2.rock, rfl, rfl, .inl (.inl g2), rfl, a1, b1, b2.rock, rfl, g1, ?_⟩
      rw [nm]
      refine ⟨_, gD, by rw [List.length_map, List.length_replicate]; exact small1000 (by omega), ?_, fun b o nb e => by rw [upd_ne nb]; exact st _ _ (k b o nb e)⟩
      rw [upd_same, List.replicate_succ', List.map_append]
      rfl
    rintro H4 ⟨hD4, k4⟩
    have e2 : (List.replicate (xs.length - 1) false).any id = false := by
      rw [List.any_eq_false]
      intro x hx
      rw [(List.mem_replicate.mp hx).2]
      exact Bool.false_ne_true
    refine ⟨D2, _, rfl, .inl (.inl hD4), ?_⟩
    rw [e2]
    exact ⟨_, rfl, q H4 fun b o e => k4 b o (ne_of_none (s03 _ _ e) nD2) (s03 _ _ e)⟩
/-! ### a column -/
structure Col where
  root : Option Str
  foot : Int
  cap : Option Str
  beds : List Bed
structure GoodC (c : Col) : Prop where
  root : okO c.root
  cap : okO c.cap
  beds : GoodBs c.beds
abbrev sInit : Stmt := (inClass (top 17) 0)
abbrev sPFoot : Stmt := (inClass (top 17) 1)
abbrev sPBeds : Stmt := (inClass (top 17) 2)
abbrev sPRoot : Stmt := (inClass (top 17) 3)
abbrev sPMark : Stmt := (inClass (top 17) 4)
abbrev sPTop : Stmt := (inClass (top 17) 5)
abbrev sMLaid : Stmt := (inClass (top 17) 11)
abbrev sMCut : Stmt := (inClass (top 17) 12)
abbrev sMTurned : Stmt := (inClass (top 17) 13)
abbrev sMLifted : Stmt := (inClass (top 17) 14)
abbrev sMWith : Stmt := (inClass (top 17) 16)
/-- the class as the top has made it -/
structure ColF (K : PySem.W.Frag) (mg : Str → Option Value) where
  C : Addr
  cl : Cls K C
  mgC : mg "Column" = some (.ref C)
  nFoot : NoAttr K C "_foot"
  nBeds : NoAttr K C "_beds"
  nRoot : NoAttr K C "_root"
  nMark : NoAttr K C "_mark"
  t0 : Addr
  ht0 : ∀ H, SqT K H t0 []
  ty0 : ∀ H, TyX K H (.ref t0) (.type "tuple")
  fI : Addr
  fdI : FuncData
  FI : FunD K "__init__" "Column.__init__" (defArgs sInit) (defBody sInit) (defScope sInit) [.int 0, .ref t0] [("root", .non), ("mark", .non)] fI fdI
  mkC : Mk K C fI
  g2 : List Value → List Value → List Value
  g1 : List Value → List Value → List Value
  g0 : List Value → List Value → List Value
  kb2rm : KBn K fdI ["self", "foot", "beds", "root", "mark"] 3 ["root", "mark"] g2 (fun vs zs => vs ++ zs)
  kb1rm : KBn K fdI ["self", "foot", "beds", "root", "mark"] 2 ["root", "mark"] g1 (fun vs zs => vs ++ (.ref t0 :: zs))
  kb1r : KBn K fdI ["self", "foot", "beds", "root", "mark"] 2 ["root"] g0 (fun vs zs => vs ++ (.ref t0 :: (zs ++ [.non])))
  p1 : Addr
  q1 : Addr
  d1 : FuncData
  pFoot : PropOf K C "foot" p1 q1
  FpFoot : Fun K "foot" "Column.foot" sPFoot q1 d1
  bFoot : Binds K d1 ["self"] []
  p2 : Addr
  q2 : Addr
  d2 : FuncData
  pBeds : PropOf K C "beds" p2 q2
  FpBeds : Fun K "beds" "Column.beds" sPBeds q2 d2
  bBeds : Binds K d2 ["self"] []
  p3 : Addr
  q3 : Addr
  d3 : FuncData
  pRoot : PropOf K C "root" p3 q3
  FpRoot : Fun K "root" "Column.root" sPRoot q3 d3
  bRoot : Binds K d3 ["self"] []
  p4 : Addr
  q4 : Addr
  d4 : FuncData
  pMark : PropOf K C "mark" p4 q4
  FpMark : Fun K "mark" "Column.mark" sPMark q4 d4
  bMark : Binds K d4 ["self"] []
  p5 : Addr
  q5 : Addr
  d5 : FuncData
  pTop : PropOf K C "top" p5 q5
  FpTop : Fun K "top" "Column.top" sPTop q5 d5
  bTop : Binds K d5 ["self"] []
  m1 : Addr
  e1 : FuncData
  mLaid : Meth K C "laid" m1
  FmLaid : Fun K "laid" "Column.laid" sMLaid m1 e1
  bLaid : Binds K e1 ["self", "rock", "level"] []
  m2 : Addr
  e2 : FuncData
  mCut : Meth K C "cut_to" m2
  FmCut : Fun K "cut_to" "Column.cut_to" sMCut m2 e2
  bCut : Binds K e2 ["self", "name", "level"] []
  m3 : Addr
  e3 : FuncData
  mTurned : Meth K C "turned" m3
  FmTurned : Fun K "turned" "Column.turned" sMTurned m3 e3
  bTurned : Binds K e3 ["self", "rock", "level"] []
  m4 : Addr
  e4 : FuncData
  mLifted : Meth K C "lifted" m4
  FmLifted : Fun K "lifted" "Column.lifted" sMLifted m4 e4
  bLifted : Binds K e4 ["self", "by"] []
  m5 : Addr
  e5 : FuncData
  mWith : Meth K C "_with_beds" m5
  FmWith : Fun K "_with_beds" "Column._with_beds" sMWith m5 e5
  bWith : Binds K e5 ["self", "beds"] []
def cF (foot : Int) (b : Addr) (root cap : Option Str) : List (Str × V) := [("_foot", .int foot), ("_beds", .ref b), ("_root", oV root), ("_mark", oV cap)]
theorem kFB : ¬ ("_foot" : Str) = "_beds" := by decide +kernel
theorem kFR : ¬ ("_foot" : Str) = "_root" := by decide +kernel
theorem kFM : ¬ ("_foot" : Str) = "_mark" := by decide +kernel
theorem kBR : ¬ ("_beds" : Str) = "_root" := by decide +kernel
theorem kBM : ¬ ("_beds" : Str) = "_mark" := by decide +kernel
theorem kRM : ¬ ("_root" : Str) = "_mark" := by decide +kernel
theorem cF_foot (f : Int) (b : Addr) (r s : Option Str) : (cF f b r s).lookup ("_foot" : Str) = some (V.int f) := by
  unfold cF
  rw [List.lookup_cons_self]
theorem lk_ne {a b : Str} {v : V} {l : List (Str × V)} (h : ¬ b = a) : List.lookup a ((b, v) :: l) = l.lookup a := by
  have : (a == b) = false := beq_eq_false_iff_ne.mpr fun e => h e.symm
  simp only [List.lookup, this]
theorem cF_beds (f : Int) (b : Addr) (r s : Option Str) : (cF f b r s).lookup ("_beds" : Str) = some (V.ref b) := by
  unfold cF
  rw [lk_ne kFB, List.lookup_cons_self]
theorem cF_root (f : Int) (b : Addr) (r s : Option Str) : (cF f b r s).lookup ("_root" : Str) = some (oV r) := by
  unfold cF
  rw [lk_ne kFR, lk_ne kBR, List.lookup_cons_self]
theorem cF_mark (f : Int) (b : Addr) (r s : Option Str) : (cF f b r s).lookup ("_mark" : Str) = some (oV s) := by
  unfold cF
  rw [lk_ne kFM, lk_ne kBM, lk_ne kRM, List.lookup_cons_self]
theorem cF_put (f : Int) (b : Addr) (r s : Option Str) : putF "_mark" (oV s) (putF "_root" (oV r) (putF "_beds" (.ref b) (putF "_foot" (.int f) []))) = cF f b r s := by
  simp only [putF, if_neg kFB, if_neg kFR, if_neg kFM, if_neg kBR, if_neg kBM, if_neg kRM]
  rfl
structure ColAt (C : Addr) (X : Addr → Prop) (H : Hp) (p : Addr) (c : Col) : Prop where
  ex : ∃ (dx b : Addr) (xs : List V), H p = some (.ins C dx (cF c.foot b c.root c.cap)) ∧ ¬ X b ∧ H b = some (.tup xs) ∧ DVs X H xs (c.beds.map bedD)
  np : ¬ X p
theorem ColAt.keep {C p : Addr} {X Y : Addr → Prop} {H H' : Hp} {c : Col} (K : ∀ b o, ¬ X b → H b = some o → H' b = some o ∧ ¬ Y b) (A : ColAt C X H p c) : ColAt C Y H' p c := by
  obtain ⟨⟨dx, b, xs, h1, h2, h3, h4⟩, h5⟩ := A
  exact ⟨⟨dx, b, xs, (K _ _ h5 h1).1, (K _ _ h2 h3).2, (K _ _ h2 h3).1, h4.keep K⟩, (K _ _ h5 h1).2⟩
/-- an object is stored anew -/
theorem pu (H : Hp) (p : Addr) : ∃ U : HO → Hp, (∀ o, upd H p o = U o) ∧ (∀ o, U o p = some o) ∧ ∀ o b, b ≠ p → U o b = H b :=
  ⟨fun o => upd H p o, fun _ => rfl, fun _ => upd_same, fun _ _ nb => upd_ne nb⟩
/-- a tuple that is read stays, whatever an instance at p becomes -/
theorem seqT_at {H H' : Hp} {p C dx a : Addr} {fs : List (Str × V)} {xs : List V} (hp : H p = some (.ins C dx fs)) (k : ∀ x o, x ≠ p → H x = some o → H' x = some o) (h : SqT K H a xs) : SqT K H' a xs := by
  rcases h with (h | ⟨o, h⟩) | h
  · exact .inl (.inl (k _ _ (ne_of h hp (by intro z; cases z)) h))
  · exact .inl (.inr ⟨o, k _ _ (ne_of h hp (by intro z; cases z)) h⟩)
  · exact .inr h
/-- __init__ over a list -/
def spInitL (C : Addr) : Sp := fun vs H Q _ => ∃ (p dx a : Addr) (xs : List V) (X : Addr → Prop) (c : Col), vs = [.ref p, .int c.foot, .ref a, oV c.root, oV c.cap] ∧ H p = some (.ins C dx []) ∧ H a = some (.lst xs) ∧ DVs X H xs (c.beds.map bedD) ∧ GoodC c ∧ c.beds.length ≤ 900 ∧
  ∀ (H' : Hp) (b : Addr) (ys : List V), H b = none → H' p = some (.ins C dx (cF c.foot b c.root c.cap)) → H' b = some (.tup ys) → DVs (Old H) H' ys (c.beds.map bedD) → (∀ x o, x ≠ p → H x = some o → H' x = some o) → Q .non H'
theorem scInit : FnScope ["self", "foot", "beds", "root", "mark", "bed"] ["self", "foot", "beds", "root", "mark"] (defScope sInit) := ⟨rfl, rfl, rfl, by decide +kernel, rfl, by decide +kernel, by decide +kernel⟩
theorem ok_initL {fAB fB fM fN fL fNN fNL fNO : Addr} {fdAB fdB fdM fdN fdL fdNN fdNL fdNO : FuncData} {tN : Tok} (C : ColF K mg) (T : Txt mg) (DAB : DefAt K mg "are_beds" sAreBeds ["value"] fAB fdAB) (DB : DefAt K mg "is_bed" sIsBed ["value"] fB fdB) (DM : DefAt K mg "merges" sMerges ["bed", "rock"] fM fdM)
    (DN : DefAt K mg "is_name" sIsName ["value"] fN fdN) (DL : DefAt K mg "is_level" sIsLevel ["value"] fL fdL) (DNN : DefAt K mg "need_name" sNeedName ["value"] fNN fdNN) (DNL : DefAt K mg "need_level" sNeedLevel ["value"] fNL fdNL) (DNO : DefAt K mg "need_name_or_none" sNeedNameOrNone ["value"] fNO fdNO)
    (mgLONGEST_NAME : mg "LONGEST_NAME" = some (.int 8 tN)) : FnOk P w K mg base CX0 4 C.fI C.fdI ["self", "foot", "beds", "root", "mark"] (spInitL C.C) := by
  have GABl : FnOk P w K mg base CX0 3 fAB fdAB ["value"] spAreL := ok_areL DAB.F T DB DM DN DL mgLONGEST_NAME
  have GNL : FnOk P w K mg base CX0 2 fNL fdNL ["value"] spNeedLevel := ok_need_level DNL.F T DL
  have GNO : FnOk P w K mg base CX0 3 fNO fdNO ["value"] spNeedO := ok_need_o DNO.F T DN DNN mgLONGEST_NAME
  refine C.FI.ok scInit (fun vs H Q E h => ?_) (fun cdv A outer s H vs Q E hr h => ?_)
  · obtain ⟨p, dx, a, xs, X, c, rfl, _⟩ := h
    rfl
  · obtain ⟨p, dx, a, xs, X, c, rfl, hp, ha, S, G, hl, q⟩ := h
    have nd := scInit.nd
    have hlen := beds_len S
    suffices hh : ∃ t, PSs (cxOf CX0 P w K mg base ["self", "foot", "beds", "root", "mark", "bed"] "Column.__init__" (defScope sInit) C.fI cdv A outer s H E).nox (defBody sInit) t ∧ t { nx := fun _ H' => Q .non H', rt := Q } (start ["self", "foot", "beds", "root", "mark", "bed"] [.ref p, .int c.foot, .ref a, oV c.root, oV c.cap]) H from
      let ⟨t, h1, h2⟩ := hh; ⟨t, h1.nox, h2⟩
    refine ⟨_, (pss_cons (ps_expr (pe_call GNL (hr.mono (by decide)) (by rfl) DNL.M DNL.F.kp DNL.B .nil pass0 (pa_cons (pv 1) pa_nil)))
    (pss_cons (ps_if (pt_not (pt_val (pe_call GABl (hr.mono (by decide)) (by rfl) DAB.M DAB.F.kp DAB.B .nil pass0 (pa_cons (pv 2) pa_nil))))
      (pss_one ps_never)
      pss_nil)
    (pss_cons (ps_expr (pe_call GNO (hr.mono (by decide)) (by rfl) DNO.M DNO.F.kp DNO.B .nil pass0 (pa_cons (pv 3) pa_nil)))
    (pss_cons (ps_expr (pe_call GNO (hr.mono (by decide)) (by rfl) DNO.M DNO.F.kp DNO.B .nil pass0 (pa_cons (pv 4) pa_nil)))
    (pss_cons (ps_fld (pv 0) (pv 1) rfl)
    (pss_cons (ps_fld (pv 0) (pe_callTy call_tuple_of (by rfl) T.tuple (by decide +kernel) (pa_cons (pe_lc (own := [("bed", 5)]) (g := gName 5) (by rfl) nd (pi_list (pv 2)) (blkOk_by (own := [("bed", 5)]) (N := ["self", "foot", "beds", "root", "mark", "bed"]) (sc := defScope sInit) (by decide +kernel)) (fun _ _ _ _ _ => (pg_name (i := 5) nd rfl (Or.inl rfl))) (fun _ _ _ _ _ => pts_nil) (fun _ _ _ _ _ => (pe_tup (pa_cons (pe_ix (show IxR _ (rIxT K) from ix_tup) (pv 5) pe_int (fun _ _ => rfl)) (pa_cons (pe_ix (show IxR _ (rIxT K) from ix_tup) (pv 5) pe_int (fun _ _ => rfl)) (pa_cons (pe_ix (show IxR _ (rIxT K) from ix_tup) (pv 5) pe_int (fun _ _ => rfl)) pa_nil)))))) pa_nil)) rfl)
    (pss_cons (ps_fld (pv 0) (pv 3) rfl)
    (pss_one (ps_fld (pv 0) (pv 4) rfl))))))))), ?_⟩
    -- the checks
    refine ⟨_, rfl, _, rfl, fun H1 s1 => ?_⟩
    refine ⟨_, rfl, a, xs, c.beds, X, rfl, s1 _ _ ha, same_dvs s1 S, G.beds, hl, fun H2 s2 => ⟨_, rfl, iteF ?_⟩⟩
    refine ⟨_, rfl, _, rfl, G.root, fun H3 s3 => ?_⟩
    refine ⟨_, rfl, _, rfl, G.cap, fun H4 s4 => ?_⟩
    have s14 : Same H H4 := ((s1.trans s2).trans s3).trans s4
    have hp4 := s14 _ _ hp
    -- self._foot = foot
    refine ⟨_, rfl, _, rfl, p, C.C, dx, [], rfl, hp4, C.cl, C.nFoot, (by show 0 < 1000; decide), ?_⟩
    obtain ⟨U5, r5, h5, o5⟩ := pu H4 p
    rw [r5]
    have k5 : ∀ o x y, x ≠ p → H x = some y → U5 o x = some y := fun o x y nx e => Eq.trans (o5 o x nx) (s14 _ _ e)
    have nap : a ≠ p := ne_of ha hp (by intro z; cases z)
    -- self._beds = tuple([..])
    refine ⟨_, rfl, a, rfl, ⟨_, .inl (.inl (k5 _ _ _ nap ha))⟩, fun D nD => ?_⟩
    have nDp : p ≠ D := ne_of_none (h5 _) nD
    refine lc_list (K := K) (a := a) (xs := xs) (fun i Hi => ∃ acc : List V, Hi D = some (.lst acc) ∧ acc.length = i ∧ DVs (fun z => Old H z ∨ z = D) Hi acc ((c.beds.take i).map bedD) ∧ ∀ x y, x ≠ D → U5 (.ins C.C dx (putF "_foot" (.int c.foot) [])) x = some y → Hi x = some y)
      ⟨[], upd_same, rfl, .nil, fun x y nx e => by rw [upd_ne nx]; exact e⟩ (fun i Hi _ ⟨_, _, _, _, k⟩ => .inl (.inl (k _ _ (ne_of_none (k5 _ _ _ nap ha) nD) (k5 _ _ _ nap ha)))) ?_ ?_
    · rintro i x Hi hx ⟨acc, hD, hl', SA, k⟩
      obtain ⟨bd, ab, hb, rfl, _, hab⟩ := beds_get S hx
      have nabp : ab ≠ p := ne_of hab hp (by intro z; cases z)
      have hab' := k5 (.ins C.C dx (putF "_foot" (.int c.foot) [])) _ _ nabp hab
      have hab2 := k _ _ (ne_of_none hab' nD) hab'
      have hi : i < c.beds.length := (List.getElem?_eq_some_iff.mp hb).1
      refine ⟨rfl, _, rfl, ab, bedV bd, 0, _, rfl, rfl, .inl (.inl hab2), rfl, _, rfl, ab, bedV bd, 1, _, rfl, rfl, .inl (.inl hab2), rfl, _, rfl, ab, bedV bd, 2, _, rfl, rfl, .inl (.inl hab2), rfl, (by show 3 ≤ sizeLine; decide), fun t nt => ?_⟩
      have old : ∀ z o, H z = some o → Hi z ≠ none := fun z o e => by
        by_cases hz : z = p
        · rw [hz, k p _ nDp (h5 _)]; exact fun w => nomatch w
        · have e' := k5 (.ins C.C dx (putF "_foot" (.int c.foot) [])) _ _ hz e
          rw [k _ _ (ne_of_none e' nD) e']
          exact fun w => nomatch w
      have nto : ¬ (Old H t ∨ t = D) := fun z => by
        rcases z with z | z
        · cases e : H t with
          | none => exact z e
          | some o => exact old t o e nt
        · rw [z, hD] at nt; cases nt
      have st := new_same (o := .tup [.str bd.rock, .int bd.th, oV bd.mark]) nt
      refine ⟨acc, st _ _ hD, (by rw [hl']; exact small1000 (by omega)), acc ++ [.ref t], upd_same, (by rw [List.length_append, hl']; rfl), ?_, fun x y nx e => by rw [upd_ne nx]; exact st _ _ (k x y nx e)⟩
      rw [List.take_add_one, hb, List.map_append]
      refine (DVs.append (SA.keep fun b o nb e => ⟨st _ _ e, nb⟩) (.cons (dv_bed nto upd_same) .nil)).keep fun b o nb e => ⟨?_, nb⟩
      rw [upd_ne fun z => nb (.inr z)]
      exact e
    rintro H6 ⟨acc, hD, hl', SA, k6⟩
    rw [hlen, List.take_length] at SA
    refine ⟨D, acc, rfl, .inl ⟨.inl (.inl hD), fun l nl => ?_⟩⟩
    have st := new_same (o := .tup acc) nl
    have hl6 : (upd H6 l (.tup acc)) l = some (.tup acc) := upd_same
    have old6 : ∀ z o, z ≠ p → H z = some o → H6 z = some o := fun z o nz e => by
      have e' := k5 (.ins C.C dx (putF "_foot" (.int c.foot) [])) _ _ nz e
      exact k6 _ _ (ne_of_none e' nD) e'
    have hp6 := k6 p _ nDp (h5 _)
    have nlo : ¬ Old H l := fun z => by
      cases e : H l with
      | none => exact z e
      | some o =>
        by_cases hz : l = p
        · rw [hz, hp6] at nl; cases nl
        · rw [old6 l o hz e] at nl; cases nl
    have hHl : H l = none := by
      cases e : H l with
      | none => rfl
      | some o => exact absurd (old_of e) nlo
    have hp7 := st _ _ hp6
    have SA7 : DVs (Old H) (upd H6 l (.tup acc)) acc (c.beds.map bedD) := SA.keep fun b o nb e => ⟨st _ _ e, fun z => nb (.inl z)⟩
    have k7 : ∀ x o, x ≠ p → H x = some o → (upd H6 l (.tup acc)) x = some o := fun x o nx e => st _ _ (old6 x o nx e)
    generalize upd H6 l (.tup acc) = H7 at hl6 hp7 SA7 k7 ⊢
    have nlp : l ≠ p := fun z => by rw [z, hp7] at hl6; cases hl6
    refine ⟨_, rfl, p, C.C, dx, _, rfl, hp7, C.cl, C.nBeds, (by show 1 < 1000; decide), ?_⟩
    obtain ⟨U8, r8, h8, o8⟩ := pu H7 p
    rw [r8]
    refine ⟨_, rfl, _, rfl, p, C.C, dx, _, rfl, h8 _, C.cl, C.nRoot, (by show 2 < 1000; decide), ?_⟩
    obtain ⟨U9, r9, h9, o9⟩ := pu (U8 (.ins C.C dx (putF "_beds" (.ref l) (putF "_foot" (.int c.foot) [])))) p
    rw [r9]
    refine ⟨_, rfl, _, rfl, p, C.C, dx, _, rfl, h9 _, C.cl, C.nMark, (by show 3 < 1000; decide), ?_⟩
    obtain ⟨U10, r10, h10, o10⟩ := pu (U9 (.ins C.C dx (putF "_root" (oV c.root) (putF "_beds" (.ref l) (putF "_foot" (.int c.foot) []))))) p
    rw [r10]
    have up : ∀ o x, x ≠ p → U10 o x = H7 x := fun o x nx => by rw [o10 o x nx, o9 _ x nx, o8 _ x nx]
    refine q _ l acc hHl ?_ (Eq.trans (up _ l nlp) hl6) (SA7.keep fun b o nb e => ⟨Eq.trans (up _ b fun z => nb (z ▸ old_of hp)) e, nb⟩) (fun x o nx e => Eq.trans (up _ x nx) (k7 x o nx e))
    rw [h10, cF_put]
/-- __init__ over a tuple -/
def spInitT (K : PySem.W.Frag) (C : Addr) : Sp := fun vs H Q _ => ∃ (p dx a : Addr) (xs : List V) (X : Addr → Prop) (c : Col), vs = [.ref p, .int c.foot, .ref a, oV c.root, oV c.cap] ∧ H p = some (.ins C dx []) ∧ SqT K H a xs ∧ TyX K H (.ref a) (.type "tuple") ∧ DVs X H xs (c.beds.map bedD) ∧ GoodC c ∧ c.beds.length ≤ 900 ∧
  ∀ (H' : Hp) (b : Addr) (ys : List V), H b = none → H' p = some (.ins C dx (cF c.foot b c.root c.cap)) → H' b = some (.tup ys) → DVs (Old H) H' ys (c.beds.map bedD) → (∀ x o, x ≠ p → H x = some o → H' x = some o) → Q .non H'
theorem ok_initT {fAB fB fM fN fL fNN fNL fNO : Addr} {fdAB fdB fdM fdN fdL fdNN fdNL fdNO : FuncData} {tN : Tok} (C : ColF K mg) (T : Txt mg) (DAB : DefAt K mg "are_beds" sAreBeds ["value"] fAB fdAB) (DB : DefAt K mg "is_bed" sIsBed ["value"] fB fdB) (DM : DefAt K mg "merges" sMerges ["bed", "rock"] fM fdM)
    (DN : DefAt K mg "is_name" sIsName ["value"] fN fdN) (DL : DefAt K mg "is_level" sIsLevel ["value"] fL fdL) (DNN : DefAt K mg "need_name" sNeedName ["value"] fNN fdNN) (DNL : DefAt K mg "need_level" sNeedLevel ["value"] fNL fdNL) (DNO : DefAt K mg "need_name_or_none" sNeedNameOrNone ["value"] fNO fdNO)
    (mgLONGEST_NAME : mg "LONGEST_NAME" = some (.int 8 tN)) : FnOk P w K mg base CX0 4 C.fI C.fdI ["self", "foot", "beds", "root", "mark"] (spInitT K C.C) := by
  have GABt : FnOk P w K mg base CX0 3 fAB fdAB ["value"] (spAreT K) := ok_areT DAB.F T DB DM DN DL mgLONGEST_NAME
  have GNL : FnOk P w K mg base CX0 2 fNL fdNL ["value"] spNeedLevel := ok_need_level DNL.F T DL
  have GNO : FnOk P w K mg base CX0 3 fNO fdNO ["value"] spNeedO := ok_need_o DNO.F T DN DNN mgLONGEST_NAME
  refine C.FI.ok scInit (fun vs H Q E h => ?_) (fun cdv A outer s H vs Q E hr h => ?_)
  · obtain ⟨p, dx, a, xs, X, c, rfl, _⟩ := h
    rfl
  · obtain ⟨p, dx, a, xs, X, c, rfl, hp, ha, hty, S, G, hl, q⟩ := h
    have nd := scInit.nd
    have hlen := beds_len S
    suffices hh : ∃ t, PSs (cxOf CX0 P w K mg base ["self", "foot", "beds", "root", "mark", "bed"] "Column.__init__" (defScope sInit) C.fI cdv A outer s H E).nox (defBody sInit) t ∧ t { nx := fun _ H' => Q .non H', rt := Q } (start ["self", "foot", "beds", "root", "mark", "bed"] [.ref p, .int c.foot, .ref a, oV c.root, oV c.cap]) H from
      let ⟨t, h1, h2⟩ := hh; ⟨t, h1.nox, h2⟩
    refine ⟨_, (pss_cons (ps_expr (pe_call GNL (hr.mono (by decide)) (by rfl) DNL.M DNL.F.kp DNL.B .nil pass0 (pa_cons (pv 1) pa_nil)))
    (pss_cons (ps_if (pt_not (pt_val (pe_call GABt (hr.mono (by decide)) (by rfl) DAB.M DAB.F.kp DAB.B .nil pass0 (pa_cons (pv 2) pa_nil))))
      (pss_one ps_never)
      pss_nil)
    (pss_cons (ps_expr (pe_call GNO (hr.mono (by decide)) (by rfl) DNO.M DNO.F.kp DNO.B .nil pass0 (pa_cons (pv 3) pa_nil)))
    (pss_cons (ps_expr (pe_call GNO (hr.mono (by decide)) (by rfl) DNO.M DNO.F.kp DNO.B .nil pass0 (pa_cons (pv 4) pa_nil)))
    (pss_cons (ps_fld (pv 0) (pv 1) rfl)
    (pss_cons (ps_fld (pv 0) (pe_callTy call_tuple_of (by rfl) T.tuple (by decide +kernel) (pa_cons (pe_lc (own := [("bed", 5)]) (g := gName 5) (by rfl) nd (pi_tup (pv 2)) (blkOk_by (own := [("bed", 5)]) (N := ["self", "foot", "beds", "root", "mark", "bed"]) (sc := defScope sInit) (by decide +kernel)) (fun _ _ _ _ _ => (pg_name (i := 5) nd rfl (Or.inl rfl))) (fun _ _ _ _ _ => pts_nil) (fun _ _ _ _ _ => (pe_tup (pa_cons (pe_ix (show IxR _ (rIxT K) from ix_tup) (pv 5) pe_int (fun _ _ => rfl)) (pa_cons (pe_ix (show IxR _ (rIxT K) from ix_tup) (pv 5) pe_int (fun _ _ => rfl)) (pa_cons (pe_ix (show IxR _ (rIxT K) from ix_tup) (pv 5) pe_int (fun _ _ => rfl)) pa_nil)))))) pa_nil)) rfl)
    (pss_cons (ps_fld (pv 0) (pv 3) rfl)
    (pss_one (ps_fld (pv 0) (pv 4) rfl))))))))), ?_⟩
    -- the checks
    refine ⟨_, rfl, _, rfl, fun H1 s1 => ?_⟩
    refine ⟨_, rfl, a, xs, c.beds, X, rfl, same_seqT s1 ha, same_ty s1 hty, same_dvs s1 S, G.beds, hl, fun H2 s2 => ⟨_, rfl, iteF ?_⟩⟩
    refine ⟨_, rfl, _, rfl, G.root, fun H3 s3 => ?_⟩
    refine ⟨_, rfl, _, rfl, G.cap, fun H4 s4 => ?_⟩
    have s14 : Same H H4 := ((s1.trans s2).trans s3).trans s4
    have hp4 := s14 _ _ hp
    -- self._foot = foot
    refine ⟨_, rfl, _, rfl, p, C.C, dx, [], rfl, hp4, C.cl, C.nFoot, (by show 0 < 1000; decide), ?_⟩
    obtain ⟨U5, r5, h5, o5⟩ := pu H4 p
    rw [r5]
    have k5 : ∀ o x y, x ≠ p → H x = some y → U5 o x = some y := fun o x y nx e => Eq.trans (o5 o x nx) (s14 _ _ e)
    have ha5 : ∀ o, SqT K (U5 o) a xs := fun o => seqT_at hp (fun x y nx e => k5 o x y nx e) ha
    -- self._beds = tuple([..])
    refine ⟨_, rfl, a, rfl, ⟨_, ha5 _⟩, fun D nD => ?_⟩
    have nDp : p ≠ D := ne_of_none (h5 _) nD
    refine lc_tup (K := K) (a := a) (xs := xs) (fun i Hi => ∃ acc : List V, Hi D = some (.lst acc) ∧ acc.length = i ∧ DVs (fun z => Old H z ∨ z = D) Hi acc ((c.beds.take i).map bedD) ∧ ∀ x y, x ≠ D → U5 (.ins C.C dx (putF "_foot" (.int c.foot) [])) x = some y → Hi x = some y)
      ⟨[], upd_same, rfl, .nil, fun x y nx e => by rw [upd_ne nx]; exact e⟩ (fun i Hi _ ⟨_, _, _, _, k⟩ => same_seqT (fun b o e => k b o (ne_of_none e nD) e) (ha5 _)) ?_ ?_
    · rintro i x Hi hx ⟨acc, hD, hl', SA, k⟩
      obtain ⟨bd, ab, hb, rfl, _, hab⟩ := beds_get S hx
      have nabp : ab ≠ p := ne_of hab hp (by intro z; cases z)
      have hab' := k5 (.ins C.C dx (putF "_foot" (.int c.foot) [])) _ _ nabp hab
      have hab2 := k _ _ (ne_of_none hab' nD) hab'
      have hi : i < c.beds.length := (List.getElem?_eq_some_iff.mp hb).1
      refine ⟨rfl, _, rfl, ab, bedV bd, 0, _, rfl, rfl, .inl (.inl hab2), rfl, _, rfl, ab, bedV bd, 1, _, rfl, rfl, .inl (.inl hab2), rfl, _, rfl, ab, bedV bd, 2, _, rfl, rfl, .inl (.inl hab2), rfl, (by show 3 ≤ sizeLine; decide), fun t nt => ?_⟩
      have old : ∀ z o, H z = some o → Hi z ≠ none := fun z o e => by
        by_cases hz : z = p
        · rw [hz, k p _ nDp (h5 _)]; exact fun w => nomatch w
        · have e' := k5 (.ins C.C dx (putF "_foot" (.int c.foot) [])) _ _ hz e
          rw [k _ _ (ne_of_none e' nD) e']
          exact fun w => nomatch w
      have nto : ¬ (Old H t ∨ t = D) := fun z => by
        rcases z with z | z
        · cases e : H t with
          | none => exact z e
          | some o => exact old t o e nt
        · rw [z, hD] at nt; cases nt
      have st := new_same (o := .tup [.str bd.rock, .int bd.th, oV bd.mark]) nt
      refine ⟨acc, st _ _ hD, (by rw [hl']; exact small1000 (by omega)), acc ++ [.ref t], upd_same, (by rw [List.length_append, hl']; rfl), ?_, fun x y nx e => by rw [upd_ne nx]; exact st _ _ (k x y nx e)⟩
      rw [List.take_add_one, hb, List.map_append]
      refine (DVs.append (SA.keep fun b o nb e => ⟨st _ _ e, nb⟩) (.cons (dv_bed nto upd_same) .nil)).keep fun b o nb e => ⟨?_, nb⟩
      rw [upd_ne fun z => nb (.inr z)]
      exact e
    rintro H6 ⟨acc, hD, hl', SA, k6⟩
    rw [hlen, List.take_length] at SA
    refine ⟨D, acc, rfl, .inl ⟨.inl (.inl hD), fun l nl => ?_⟩⟩
    have st := new_same (o := .tup acc) nl
    have hl6 : (upd H6 l (.tup acc)) l = some (.tup acc) := upd_same
    have old6 : ∀ z o, z ≠ p → H z = some o → H6 z = some o := fun z o nz e => by
      have e' := k5 (.ins C.C dx (putF "_foot" (.int c.foot) [])) _ _ nz e
      exact k6 _ _ (ne_of_none e' nD) e'
    have hp6 := k6 p _ nDp (h5 _)
    have nlo : ¬ Old H l := fun z => by
      cases e : H l with
      | none => exact z e
      | some o =>
        by_cases hz : l = p
        · rw [hz, hp6] at nl; cases nl
        · rw [old6 l o hz e] at nl; cases nl
    have hHl : H l = none := by
      cases e : H l with
      | none => rfl
      | some o => exact absurd (old_of e) nlo
    have hp7 := st _ _ hp6
    have SA7 : DVs (Old H) (upd H6 l (.tup acc)) acc (c.beds.map bedD) := SA.keep fun b o nb e => ⟨st _ _ e, fun z => nb (.inl z)⟩
    have k7 : ∀ x o, x ≠ p → H x = some o → (upd H6 l (.tup acc)) x = some o := fun x o nx e => st _ _ (old6 x o nx e)
    generalize upd H6 l (.tup acc) = H7 at hl6 hp7 SA7 k7 ⊢
    have nlp : l ≠ p := fun z => by rw [z, hp7] at hl6; cases hl6
    refine ⟨_, rfl, p, C.C, dx, _, rfl, hp7, C.cl, C.nBeds, (by show 1 < 1000; decide), ?_⟩
    obtain ⟨U8, r8, h8, o8⟩ := pu H7 p
    rw [r8]
    refine ⟨_, rfl, _, rfl, p, C.C, dx, _, rfl, h8 _, C.cl, C.nRoot, (by show 2 < 1000; decide), ?_⟩
    obtain ⟨U9, r9, h9, o9⟩ := pu (U8 (.ins C.C dx (putF "_beds" (.ref l) (putF "_foot" (.int c.foot) [])))) p
    rw [r9]
    refine ⟨_, rfl, _, rfl, p, C.C, dx, _, rfl, h9 _, C.cl, C.nMark, (by show 3 < 1000; decide), ?_⟩
    obtain ⟨U10, r10, h10, o10⟩ := pu (U9 (.ins C.C dx (putF "_root" (oV c.root) (putF "_beds" (.ref l) (putF "_foot" (.int c.foot) []))))) p
    rw [r10]
    have up : ∀ o x, x ≠ p → U10 o x = H7 x := fun o x nx => by rw [o10 o x nx, o9 _ x nx, o8 _ x nx]
    refine q _ l acc hHl ?_ (Eq.trans (up _ l nlp) hl6) (SA7.keep fun b o nb e => ⟨Eq.trans (up _ b fun z => nb (z ▸ old_of hp)) e, nb⟩) (fun x o nx e => Eq.trans (up _ x nx) (k7 x o nx e))
    rw [h10, cF_put]
/-! ### the readers -/
def spGet (C : Addr) (v : Col → V) : Sp := fun vs H Q _ => ∃ (p : Addr) (c : Col) (X : Addr → Prop), vs = [.ref p] ∧ ColAt C X H p c ∧ Q (v c) H
theorem scSelf1 {st : Stmt} (h : FnScope ["self"] ["self"] (defScope st)) : FnScope ["self"] ["self"] (defScope st) := h
theorem scPFoot : FnScope ["self"] ["self"] (defScope sPFoot) := ⟨rfl, rfl, rfl, by decide +kernel, rfl, by decide +kernel, by decide +kernel⟩
theorem scPBeds : FnScope ["self"] ["self"] (defScope sPBeds) := ⟨rfl, rfl, rfl, by decide +kernel, rfl, by decide +kernel, by decide +kernel⟩
theorem scPRoot : FnScope ["self"] ["self"] (defScope sPRoot) := ⟨rfl, rfl, rfl, by decide +kernel, rfl, by decide +kernel, by decide +kernel⟩
theorem scPMark : FnScope ["self"] ["self"] (defScope sPMark) := ⟨rfl, rfl, rfl, by decide +kernel, rfl, by decide +kernel, by decide +kernel⟩
theorem ok_foot (C : ColF K mg) : FnOk P w K mg base CX0 1 C.q1 C.d1 ["self"] (spGet C.C fun c => .int c.foot) := by
  refine C.FpFoot.ok scPFoot (fun vs H Q E h => ?_) (fun cdv A outer s H vs Q E hr h => ?_)
  · obtain ⟨p, c, X, rfl, _⟩ := h
    rfl
  · obtain ⟨p, c, X, rfl, ⟨⟨dx, b, xs, hp, _⟩, _⟩, q⟩ := h
    refine ⟨_, pss_one (ps_ret (pe_fld (pv 0) rfl)), ?_⟩
    exact ⟨_, rfl, p, C.C, dx, _, _, rfl, hp, C.cl, C.nFoot, cF_foot _ _ _ _, q⟩
theorem ok_root (C : ColF K mg) : FnOk P w K mg base CX0 1 C.q3 C.d3 ["self"] (spGet C.C fun c => oV c.root) := by
  refine C.FpRoot.ok scPRoot (fun vs H Q E h => ?_) (fun cdv A outer s H vs Q E hr h => ?_)
  · obtain ⟨p, c, X, rfl, _⟩ := h
    rfl
  · obtain ⟨p, c, X, rfl, ⟨⟨dx, b, xs, hp, _⟩, _⟩, q⟩ := h
    refine ⟨_, pss_one (ps_ret (pe_fld (pv 0) rfl)), ?_⟩
    exact ⟨_, rfl, p, C.C, dx, _, _, rfl, hp, C.cl, C.nRoot, cF_root _ _ _ _, q⟩
theorem ok_mark (C : ColF K mg) : FnOk P w K mg base CX0 1 C.q4 C.d4 ["self"] (spGet C.C fun c => oV c.cap) := by
  refine C.FpMark.ok scPMark (fun vs H Q E h => ?_) (fun cdv A outer s H vs Q E hr h => ?_)
  · obtain ⟨p, c, X, rfl, _⟩ := h
    rfl
  · obtain ⟨p, c, X, rfl, ⟨⟨dx, b, xs, hp, _⟩, _⟩, q⟩ := h
    refine ⟨_, pss_one (ps_ret (pe_fld (pv 0) rfl)), ?_⟩
    exact ⟨_, rfl, p, C.C, dx, _, _, rfl, hp, C.cl, C.nMark, cF_mark _ _ _ _, q⟩
def spGetBeds (C : Addr) : Sp := fun vs H Q _ => ∃ (p : Addr) (c : Col) (X : Addr → Prop), vs = [.ref p] ∧ ColAt C X H p c ∧ ∀ (b : Addr) (xs : List V), ¬ X b → H b = some (.tup xs) → DVs X H xs (c.beds.map bedD) → Q (.ref b) H
theorem ok_beds (C : ColF K mg) : FnOk P w K mg base CX0 1 C.q2 C.d2 ["self"] (spGetBeds C.C) := by
  refine C.FpBeds.ok scPBeds (fun vs H Q E h => ?_) (fun cdv A outer s H vs Q E hr h => ?_)
  · obtain ⟨p, c, X, rfl, _⟩ := h
    rfl
  · obtain ⟨p, c, X, rfl, ⟨⟨dx, b, xs, hp, nb, hb, S⟩, _⟩, q⟩ := h
    refine ⟨_, pss_one (ps_ret (pe_fld (pv 0) rfl)), ?_⟩
    exact ⟨_, rfl, p, C.C, dx, _, _, rfl, hp, C.cl, C.nBeds, cF_beds _ _ _ _, q b xs nb hb S⟩
def sumB : List Bed → Int
  | [] => 0
  | b :: r => b.th + sumB r
def topC (c : Col) : Int := c.foot + sumB c.beds
theorem sum_th : ∀ bs : List Bed, (bs.map (·.th)).sum = sumB bs
  | [] => rfl
  | b :: r => by rw [List.map_cons, List.sum_cons, sum_th r]; rfl
theorem scPTop : FnScope ["self", "bed"] ["self"] (defScope sPTop) := ⟨rfl, rfl, rfl, by decide +kernel, rfl, by decide +kernel, by decide +kernel⟩
def spTop (C : Addr) : Sp := fun vs H Q _ => ∃ (p : Addr) (c : Col) (X : Addr → Prop), vs = [.ref p] ∧ ColAt C X H p c ∧ c.beds.length ≤ 900 ∧ ∀ H', Same H H' → Q (.int (topC c)) H'
theorem ok_top (C : ColF K mg) (T : Txt mg) : FnOk P w K mg base CX0 1 C.q5 C.d5 ["self"] (spTop C.C) := by
  refine C.FpTop.ok scPTop (fun vs H Q E h => ?_) (fun cdv A outer s H vs Q E hr h => ?_)
  · obtain ⟨p, c, X, rfl, _⟩ := h
    rfl
  · obtain ⟨p, c, X, rfl, ⟨⟨dx, b, xs, hp, nb, hb, S⟩, _⟩, hl, q⟩ := h
    have nd := scPTop.nd
    have hlen := beds_len S
    refine ⟨_, (pss_one (ps_ret (pe_op op_add (pe_fld (pv 0) rfl) (pe_callB (cr_sum rfl) (by rfl) T.sum (by decide +kernel) (pa_cons (pe_lc (own := [("bed", 1)]) (g := gName 1) (by rfl) nd (pi_tup (pe_fld (pv 0) rfl)) (blkOk_by (own := [("bed", 1)]) (N := ["self", "bed"]) (sc := defScope sPTop) (by decide +kernel)) (fun _ _ _ _ _ => (pg_name (i := 1) nd rfl (Or.inl rfl))) (fun _ _ _ _ _ => pts_nil) (fun _ _ _ _ _ => (pe_ix (show IxR _ (rIxT K) from ix_tup) (pv 1) pe_int (fun _ _ => rfl)))) pa_nil))))), ?_⟩
    refine ⟨_, rfl, p, C.C, dx, _, _, rfl, hp, C.cl, C.nFoot, cF_foot _ _ _ _, _, rfl, p, C.C, dx, _, _, rfl, hp, C.cl, C.nBeds, cF_beds _ _ _ _, b, rfl, ⟨_, .inl (.inl hb)⟩, fun D nD => ?_⟩
    refine lc_tup (K := K) (a := b) (xs := xs) (fun i Hi => Hi D = some (.lst (((c.beds.take i).map (·.th)).map V.int)) ∧ ∀ x y, x ≠ D → H x = some y → Hi x = some y) ⟨upd_same, fun x y nx e => by rw [upd_ne nx]; exact e⟩ (fun i Hi _ ⟨_, k⟩ => .inl (.inl (k _ _ (ne_of_none hb nD) hb))) ?_ ?_
    · rintro i x Hi hx ⟨hD, k⟩
      obtain ⟨bd, ab, hbd, rfl, _, hab⟩ := beds_get S hx
      have hi : i < c.beds.length := (List.getElem?_eq_some_iff.mp hbd).1
      refine ⟨rfl, _, rfl, ab, bedV bd, 1, .int bd.th, rfl, rfl, .inl (.inl (k _ _ (ne_of_none hab nD) hab)), rfl, _, hD, (by rw [List.length_map, List.length_map, List.length_take]; exact small1000 (by omega)), ?_, fun x y nx e => by rw [upd_ne nx]; exact k x y nx e⟩
      rw [upd_same, List.take_add_one, hbd, List.map_append, List.map_append]
      rfl
    rintro H2 ⟨hD, k⟩
    rw [hlen, List.take_length] at hD
    refine ⟨D, _, rfl, .inl (.inl hD), _, _, rfl, rfl, ?_⟩
    rw [sum_th]
    exact q H2 fun x y e => k x y (ne_of_none e nD) e
/-! ### making one -/
theorem make_heap {H : Hp} {x dx C : Addr} (nx : H x = none) (ndx : H dx = none) (ne : dx ≠ x) : Same H (upd (upd H dx (.own x)) x (.ins C dx [])) := fun b o e => by
  rw [upd_ne (ne_of_none e nx), upd_ne (ne_of_none e ndx)]
  exact e
theorem same_old {H H' : Hp} (s : Same H H') {a : Addr} (h : Old H a) : Old H' a := by
  cases q : H a with
  | none => exact absurd q h
  | some o => exact old_of (s _ _ q)
theorem make_end {C x dx b : Addr} {H H' : Hp} {ys : List V} {c : Col} (nx : H x = none) (ndx : H dx = none) (ne : dx ≠ x) (hb : (upd (upd H dx (.own x)) x (.ins C dx [])) b = none) (hp : H' x = some (.ins C dx (cF c.foot b c.root c.cap))) (hbt : H' b = some (.tup ys))
    (S : DVs (Old (upd (upd H dx (.own x)) x (.ins C dx []))) H' ys (c.beds.map bedD)) : ColAt C (Old H) H' x c := by
  have s := make_heap (C := C) nx ndx ne
  refine ⟨⟨dx, b, ys, hp, fun z => same_old s z hb, hbt, S.keep fun z o nz e => ⟨e, fun w => nz (same_old s w)⟩⟩, fun z => z nx⟩
theorem make_goalL {C a : Addr} {H : Hp} {c : Col} {xs : List V} {X : Addr → Prop} {Q : VK} {E : XK} (ha : H a = some (.lst xs)) (S : DVs X H xs (c.beds.map bedD)) (G : GoodC c) (hl : c.beds.length ≤ 900) (q : ∀ H' p, ColAt C (Old H) H' p c → Same H H' → Q (.ref p) H') :
    ∀ x dx, H x = none → H dx = none → dx ≠ x → spInitL C [.ref x, .int c.foot, .ref a, oV c.root, oV c.cap] (upd (upd H dx (.own x)) x (.ins C dx [])) (fun v H3 => v = .non ∧ Q (.ref x) H3) E := by
  intro x dx nx ndx ne
  have s := make_heap (C := C) nx ndx ne
  refine ⟨x, dx, a, xs, X, c, rfl, upd_same, s _ _ ha, same_dvs s S, G, hl, fun H' b ys hb hp hbt S' k => ⟨rfl, q H' x (make_end nx ndx ne hb hp hbt S') fun z o e => k z o (ne_of_none e nx) (s _ _ e)⟩⟩
theorem make_goalT {C a : Addr} {H : Hp} {c : Col} {xs : List V} {X : Addr → Prop} {Q : VK} {E : XK} (ha : SqT K H a xs) (hty : TyX K H (.ref a) (.type "tuple")) (S : DVs X H xs (c.beds.map bedD)) (G : GoodC c) (hl : c.beds.length ≤ 900) (q : ∀ H' p, ColAt C (Old H) H' p c → Same H H' → Q (.ref p) H') :
    ∀ x dx, H x = none → H dx = none → dx ≠ x → spInitT K C [.ref x, .int c.foot, .ref a, oV c.root, oV c.cap] (upd (upd H dx (.own x)) x (.ins C dx [])) (fun v H3 => v = .non ∧ Q (.ref x) H3) E := by
  intro x dx nx ndx ne
  have s := make_heap (C := C) nx ndx ne
  refine ⟨x, dx, a, xs, X, c, rfl, upd_same, same_seqT s ha, same_ty s hty, same_dvs s S, G, hl, fun H' b ys hb hp hbt S' k => ⟨rfl, q H' x (make_end nx ndx ne hb hp hbt S') fun z o e => k z o (ne_of_none e nx) (s _ _ e)⟩⟩
/-! ### the facts of the program's own defs, together -/
structure Defs (K : PySem.W.Frag) (mg : Str → Option Value) where
  fN : Addr
  fdN : FuncData
  DN : DefAt K mg "is_name" sIsName ["value"] fN fdN
  fL : Addr
  fdL : FuncData
  DL : DefAt K mg "is_level" sIsLevel ["value"] fL fdL
  fNN : Addr
  fdNN : FuncData
  DNN : DefAt K mg "need_name" sNeedName ["value"] fNN fdNN
  fNL : Addr
  fdNL : FuncData
  DNL : DefAt K mg "need_level" sNeedLevel ["value"] fNL fdNL
  fNO : Addr
  fdNO : FuncData
  DNO : DefAt K mg "need_name_or_none" sNeedNameOrNone ["value"] fNO fdNO
  fB : Addr
  fdB : FuncData
  DB : DefAt K mg "is_bed" sIsBed ["value"] fB fdB
  fM : Addr
  fdM : FuncData
  DM : DefAt K mg "merges" sMerges ["bed", "rock"] fM fdM
  fAB : Addr
  fdAB : FuncData
  DAB : DefAt K mg "are_beds" sAreBeds ["value"] fAB fdAB
  tN : Tok
  mgN : mg "LONGEST_NAME" = some (.int 8 tN)
theorem initL (C : ColF K mg) (T : Txt mg) (D : Defs K mg) : FnOk P w K mg base CX0 4 C.fI C.fdI ["self", "foot", "beds", "root", "mark"] (spInitL C.C) := ok_initL C T D.DAB D.DB D.DM D.DN D.DL D.DNN D.DNL D.DNO D.mgN
theorem initT (C : ColF K mg) (T : Txt mg) (D : Defs K mg) : FnOk P w K mg base CX0 4 C.fI C.fdI ["self", "foot", "beds", "root", "mark"] (spInitT K C.C) := ok_initT C T D.DAB D.DB D.DM D.DN D.DL D.DNN D.DNL D.DNO D.mgN
/-! ### _with_beds, turned, lifted -/
def wB (c : Col) (bs : List Bed) : Col := ⟨c.root, c.foot, c.cap, bs⟩
def spWithL (C : Addr) : Sp := fun vs H Q _ => ∃ (p a : Addr) (c : Col) (bs : List Bed) (xs : List V) (X Y : Addr → Prop), vs = [.ref p, .ref a] ∧ ColAt C X H p c ∧ H a = some (.lst xs) ∧ DVs Y H xs (bs.map bedD) ∧ GoodC (wB c bs) ∧ bs.length ≤ 900 ∧
  ∀ H' p', ColAt C (Old H) H' p' (wB c bs) → Same H H' → Q (.ref p') H'
def spWithT (K : PySem.W.Frag) (C : Addr) : Sp := fun vs H Q _ => ∃ (p a : Addr) (c : Col) (bs : List Bed) (xs : List V) (X Y : Addr → Prop), vs = [.ref p, .ref a] ∧ ColAt C X H p c ∧ H a = some (.tup xs) ∧ DVs Y H xs (bs.map bedD) ∧ GoodC (wB c bs) ∧ bs.length ≤ 900 ∧
  ∀ H' p', ColAt C (Old H) H' p' (wB c bs) → Same H H' → Q (.ref p') H'
theorem scMWith : FnScope ["self", "beds"] ["self", "beds"] (defScope sMWith) := ⟨rfl, rfl, rfl, by decide +kernel, rfl, by decide +kernel, by decide +kernel⟩
theorem ok_withL (C : ColF K mg) (T : Txt mg) (D : Defs K mg) : FnOk P w K mg base CX0 6 C.m5 C.e5 ["self", "beds"] (spWithL C.C) := by
  have GInitl := initL (P := P) (w := w) (base := base) C T D
  refine C.FmWith.ok scMWith (fun vs H Q E h => ?_) (fun cdv A outer s H vs Q E hr h => ?_)
  · obtain ⟨p, a, c, bs, xs, X, Y, rfl, _⟩ := h
    rfl
  · obtain ⟨p, a, c, bs, xs, X, Y, rfl, ⟨⟨dx, b, xs0, hp, nb, hb, S0⟩, _⟩, ha, S, G, hl, q⟩ := h
    have nd := scMWith.nd
    refine ⟨_, (pss_one (ps_ret (pe_makeN C.mkC GInitl (hr.mono (by decide)) (by rfl) C.mgC C.kb2rm pass0 (pa_cons (pe_fld (pv 0) rfl) (pa_cons (pv 1) pa_nil)) (pk_cons (pe_fld (pv 0) rfl) (pk_cons (pe_fld (pv 0) rfl) pk_nil))))), ?_⟩
    refine ⟨_, rfl, p, C.C, dx, _, _, rfl, hp, C.cl, C.nFoot, cF_foot _ _ _ _, _, rfl, _, rfl, p, C.C, dx, _, _, rfl, hp, C.cl, C.nRoot, cF_root _ _ _ _, _, rfl, p, C.C, dx, _, _, rfl, hp, C.cl, C.nMark, cF_mark _ _ _ _, rfl, rfl, ?_⟩
    exact make_goalL (c := wB c bs) ha S G hl q
theorem ok_withT (C : ColF K mg) (T : Txt mg) (D : Defs K mg) : FnOk P w K mg base CX0 6 C.m5 C.e5 ["self", "beds"] (spWithT K C.C) := by
  have GInitt := initT (P := P) (w := w) (base := base) C T D
  refine C.FmWith.ok scMWith (fun vs H Q E h => ?_) (fun cdv A outer s H vs Q E hr h => ?_)
  · obtain ⟨p, a, c, bs, xs, X, Y, rfl, _⟩ := h
    rfl
  · obtain ⟨p, a, c, bs, xs, X, Y, rfl, ⟨⟨dx, b, xs0, hp, nb, hb, S0⟩, _⟩, ha, S, G, hl, q⟩ := h
    have nd := scMWith.nd
    refine ⟨_, (pss_one (ps_ret (pe_makeN C.mkC GInitt (hr.mono (by decide)) (by rfl) C.mgC C.kb2rm pass0 (pa_cons (pe_fld (pv 0) rfl) (pa_cons (pv 1) pa_nil)) (pk_cons (pe_fld (pv 0) rfl) (pk_cons (pe_fld (pv 0) rfl) pk_nil))))), ?_⟩
    refine ⟨_, rfl, p, C.C, dx, _, _, rfl, hp, C.cl, C.nFoot, cF_foot _ _ _ _, _, rfl, _, rfl, p, C.C, dx, _, _, rfl, hp, C.cl, C.nRoot, cF_root _ _ _ _, _, rfl, p, C.C, dx, _, _, rfl, hp, C.cl, C.nMark, cF_mark _ _ _ _, rfl, rfl, ?_⟩
    exact make_goalT (c := wB c bs) (.inl (.inl ha)) (.base (.tup ha)) S G hl q
/-- a method that returns the column g c .. : the column itself stays -/
def spLift (C : Addr) : Sp := fun vs H Q _ => ∃ (p : Addr) (c : Col) (X : Addr → Prop) (by_ : Int), vs = [.ref p, .int by_] ∧ ColAt C X H p c ∧ GoodC c ∧ c.beds.length ≤ 900 ∧ ∀ H' p', ColAt C (Old H) H' p' ⟨c.root, c.foot + by_, c.cap, c.beds⟩ → Same H H' → Q (.ref p') H'
theorem scMLifted : FnScope ["self", "by"] ["self", "by"] (defScope sMLifted) := ⟨rfl, rfl, rfl, by decide +kernel, rfl, by decide +kernel, by decide +kernel⟩
theorem ok_lifted (C : ColF K mg) (T : Txt mg) (D : Defs K mg) : FnOk P w K mg base CX0 6 C.m4 C.e4 ["self", "by"] (spLift C.C) := by
  have GInitt := initT (P := P) (w := w) (base := base) C T D
  obtain ⟨fN, fdN, DN, fL, fdL, DL, fNN, fdNN, DNN, fNL, fdNL, DNL, _⟩ := id D
  have GNL : FnOk P w K mg base CX0 2 fNL fdNL ["value"] spNeedLevel := ok_need_level DNL.F T DL
  refine C.FmLifted.ok scMLifted (fun vs H Q E h => ?_) (fun cdv A outer s H vs Q E hr h => ?_)
  · obtain ⟨p, c, X, by_, rfl, _⟩ := h
    rfl
  · obtain ⟨p, c, X, by_, rfl, CA, G, hl, q⟩ := h
    have nd := scMLifted.nd
    refine ⟨_, (pss_cons (ps_expr (pe_call GNL (hr.mono (by decide)) (by rfl) DNL.M DNL.F.kp DNL.B .nil pass0 (pa_cons (pv 1) pa_nil)))
    (pss_one (ps_ret (pe_makeN C.mkC GInitt (hr.mono (by decide)) (by rfl) C.mgC C.kb2rm pass0 (pa_cons (pe_op op_add (pe_fld (pv 0) rfl) (pv 1)) (pa_cons (pe_fld (pv 0) rfl) pa_nil)) (pk_cons (pe_fld (pv 0) rfl) (pk_cons (pe_fld (pv 0) rfl) pk_nil)))))), ?_⟩
    refine ⟨_, rfl, by_, rfl, fun H1 s1 => ?_⟩
    obtain ⟨⟨dx, b, xs, hp, nb, hb, S⟩, _⟩ := CA.keep (Y := X) fun z o nz e => ⟨s1 _ _ e, nz⟩
    refine ⟨_, rfl, p, C.C, dx, _, _, rfl, hp, C.cl, C.nFoot, cF_foot _ _ _ _, _, rfl, _, _, rfl, rfl, _, rfl, p, C.C, dx, _, _, rfl, hp, C.cl, C.nBeds, cF_beds _ _ _ _, _, rfl, p, C.C, dx, _, _, rfl, hp, C.cl, C.nRoot, cF_root _ _ _ _, _, rfl, p, C.C, dx, _, _, rfl, hp, C.cl, C.nMark, cF_mark _ _ _ _, rfl, rfl, ?_⟩
    refine make_goalT (c := ⟨c.root, c.foot + by_, c.cap, c.beds⟩) (.inl (.inl hb)) (.base (.tup hb)) S ⟨G.root, G.cap, G.beds⟩ hl fun H' p' A' s' => q H' p' (A'.keep fun z o nz e => ⟨e, fun w => nz (same_old s1 w)⟩) (s1.trans s')
def spTurn (C : Addr) : Sp := fun vs H Q _ => ∃ (p : Addr) (rock : Str) (lv : Int), vs = [.ref p, .str rock, .int lv] ∧ wordB rock = true ∧ ∀ H' p', ColAt C (Old H) H' p' ⟨some rock, lv, none, []⟩ → Same H H' → Q (.ref p') H'
theorem scMTurned : FnScope ["self", "rock", "level"] ["self", "rock", "level"] (defScope sMTurned) := ⟨rfl, rfl, rfl, by decide +kernel, rfl, by decide +kernel, by decide +kernel⟩
theorem ok_turned (C : ColF K mg) (T : Txt mg) (D : Defs K mg) : FnOk P w K mg base CX0 6 C.m3 C.e3 ["self", "rock", "level"] (spTurn C.C) := by
  have GInitt := initT (P := P) (w := w) (base := base) C T D
  obtain ⟨fN, fdN, DN, fL, fdL, DL, fNN, fdNN, DNN, fNL, fdNL, DNL, fNO, fdNO, DNO, fB, fdB, DB, fM, fdM, DM, fAB, fdAB, DAB, tN, mgN⟩ := id D
  have GNL : FnOk P w K mg base CX0 2 fNL fdNL ["value"] spNeedLevel := ok_need_level DNL.F T DL
  have GNN : FnOk P w K mg base CX0 2 fNN fdNN ["value"] spNeedName := ok_need_name DNN.F T DN mgN
  refine C.FmTurned.ok scMTurned (fun vs H Q E h => ?_) (fun cdv A outer s H vs Q E hr h => ?_)
  · obtain ⟨p, rock, lv, rfl, _⟩ := h
    rfl
  · obtain ⟨p, rock, lv, rfl, hw, q⟩ := h
    have nd := scMTurned.nd
    refine ⟨_, (pss_cons (ps_expr (pe_call GNN (hr.mono (by decide)) (by rfl) DNN.M DNN.F.kp DNN.B .nil pass0 (pa_cons (pv 1) pa_nil)))
    (pss_cons (ps_expr (pe_call GNL (hr.mono (by decide)) (by rfl) DNL.M DNL.F.kp DNL.B .nil pass0 (pa_cons (pv 2) pa_nil)))
    (pss_one (ps_ret (pe_makeN C.mkC GInitt (hr.mono (by decide)) (by rfl) C.mgC C.kb1r pass0 (pa_cons (pv 2) pa_nil) (pk_cons (pv 1) pk_nil)))))), ?_⟩
    refine ⟨_, rfl, rock, rfl, hw, fun H1 s1 => ?_⟩
    refine ⟨_, rfl, lv, rfl, fun H2 s2 => ?_⟩
    refine ⟨_, rfl, _, rfl, rfl, rfl, ?_⟩
    have s12 := s1.trans s2
    exact make_goalT (c := ⟨some rock, lv, none, []⟩) (X := fun _ => False) (C.ht0 _) (C.ty0 _) .nil ⟨(fun z e => by cases e; exact hw), (fun z e => nomatch e), ⟨(fun b hb => nomatch hb), trivial⟩⟩ (Nat.zero_le _) fun H' p' A' s' => q H' p' (A'.keep fun z o nz e => ⟨e, fun w => nz (same_old s12 w)⟩) (s12.trans s')
/-! ### what events do to a column: the mathematics -/
def layB (bs : List Bed) (rock : Str) (more : Int) : List Bed :=
  match bs.getLast? with
  | some b => if b.rock = rock ∧ b.mark = none then bs.dropLast ++ [⟨rock, b.th + more, none⟩] else bs ++ [⟨rock, more, none⟩]
  | none => [⟨rock, more, none⟩]
def layC (c : Col) (rock : Str) (lv : Int) : Col := if 0 < lv - topC c then wB c (layB c.beds rock (lv - topC c)) else c
def cutB (name : Str) (lv : Int) : Int → List Bed → List Bed
  | _, [] => []
  | fl, b :: r => if lv ≤ fl + b.th then [⟨b.rock, lv - fl, some name⟩] else b :: cutB name lv (fl + b.th) r
def cutC (c : Col) (name : Str) (lv : Int) : Col :=
  if topC c < lv then c else if lv ≤ c.foot then ⟨c.root, lv, some name, []⟩ else wB c (cutB name lv c.foot c.beds)
theorem apart_snoc : ∀ {l : List Bed} {y : Bed}, Apart l → (∀ b, l.getLast? = some b → ¬ (b.rock = y.rock ∧ b.mark = none)) → Apart (l ++ [y])
  | [], _, _, _ => trivial
  | [b], y, _, h => ⟨h b rfl, trivial⟩
  | a :: b :: r, y, p, h => ⟨p.1, apart_snoc (l := b :: r) p.2 fun z e => h z (by rw [List.getLast?_cons_cons]; exact e)⟩
theorem apart_last : ∀ {l : List Bed} {b y : Bed}, Apart (l ++ [b]) → y.rock = b.rock → Apart (l ++ [y])
  | [], _, _, _, _ => trivial
  | [a], b, y, p, e => ⟨by rw [e]; exact p.1, trivial⟩
  | a :: c :: r, b, y, p, e => ⟨p.1, apart_last (l := c :: r) p.2 e⟩
theorem apart_init : ∀ {l : List Bed} {b : Bed}, Apart (l ++ [b]) → Apart l
  | [], _, _ => trivial
  | [a], b, _ => trivial
  | a :: c :: r, b, p => ⟨p.1, apart_init (l := c :: r) p.2⟩
theorem last_split {α : Type} {l : List α} {b : α} (h : l.getLast? = some b) : l = l.dropLast ++ [b] := by
  cases l with
  | nil => cases h
  | cons a r =>
    rw [List.getLast?_eq_getLast (List.cons_ne_nil a r)] at h
    cases h
    exact (List.dropLast_concat_getLast (List.cons_ne_nil a r)).symm
theorem good_layB {bs : List Bed} {rock : Str} {more : Int} (G : GoodBs bs) (hr : wordB rock = true) (hm : 0 < more) : GoodBs (layB bs rock more) := by
  unfold layB
  cases h : bs.getLast? with
  | none => exact ⟨fun b hb => by cases List.mem_singleton.mp hb; exact ⟨hr, by show 1 ≤ more; omega, fun z e => nomatch e⟩, trivial⟩
  | some b =>
    have es := last_split h
    have gb : GoodB b := G.all b (by rw [es]; exact List.mem_append_right _ (List.mem_singleton.mpr rfl))
    show GoodBs (if b.rock = rock ∧ b.mark = none then _ else _)
    by_cases hc : b.rock = rock ∧ b.mark = none
    · rw [if_pos hc]
      refine ⟨fun x hx => ?_, ?_⟩
      · rcases List.mem_append.mp hx with hx | hx
        · exact G.all x (by rw [es]; exact List.mem_append_left _ hx)
        · cases List.mem_singleton.mp hx
          exact ⟨hr, by show 1 ≤ b.th + more; have := gb.th; omega, fun z e => nomatch e⟩
      · have p := G.apart
        rw [es] at p
        exact apart_last p hc.1.symm
    · rw [if_neg hc]
      refine ⟨fun x hx => ?_, apart_snoc G.apart fun z e => ?_⟩
      · rcases List.mem_append.mp hx with hx | hx
        · exact G.all x hx
        · cases List.mem_singleton.mp hx
          exact ⟨hr, by show 1 ≤ more; omega, fun z e => nomatch e⟩
      · rw [h] at e
        cases e
        exact hc
theorem layB_len (bs : List Bed) (rock : Str) (more : Int) : (layB bs rock more).length ≤ bs.length + 1 := by
  unfold layB
  cases h : bs.getLast? with
  | none => show 1 ≤ _; omega
  | some b =>
    show (if b.rock = rock ∧ b.mark = none then _ else _ : List Bed).length ≤ _
    by_cases hc : b.rock = rock ∧ b.mark = none
    · rw [if_pos hc, List.length_append, List.length_dropLast]; show _ + 1 ≤ _; omega
    · rw [if_neg hc, List.length_append]; exact Nat.le_refl _
theorem good_layC {c : Col} {rock : Str} {lv : Int} (G : GoodC c) (hr : wordB rock = true) : GoodC (layC c rock lv) := by
  unfold layC
  by_cases h : 0 < lv - topC c
  · rw [if_pos h]
    exact ⟨G.root, G.cap, good_layB G.beds hr h⟩
  · rw [if_neg h]
    exact G
theorem cutB_head {name : Str} {lv : Int} : ∀ {fl : Int} {bs : List Bed}, bs = [] ∨ ∃ b r x s, bs = b :: r ∧ cutB name lv fl bs = x :: s ∧ x.rock = b.rock ∧ (x.mark = none → x = b)
  | _, [] => .inl rfl
  | fl, b :: r => .inr (by
    by_cases h : lv ≤ fl + b.th
    · exact ⟨b, r, ⟨b.rock, lv - fl, some name⟩, [], rfl, by unfold cutB; rw [if_pos h], rfl, fun e => nomatch e⟩
    · exact ⟨b, r, b, cutB name lv (fl + b.th) r, rfl, by rw [cutB, if_neg h], rfl, fun _ => rfl⟩)
theorem good_cutB {name : Str} {lv : Int} (hn : wordB name = true) : ∀ {fl : Int} {bs : List Bed}, GoodBs bs → fl < lv → GoodBs (cutB name lv fl bs)
  | _, [], G, _ => G
  | fl, b :: r, G, h0 => by
    have gb := G.all b (List.mem_cons_self ..)
    have Gr : GoodBs r := ⟨fun x hx => G.all x (List.mem_cons_of_mem _ hx), by
      cases r with
      | nil => trivial
      | cons c s => exact G.apart.2⟩
    by_cases h : lv ≤ fl + b.th
    · unfold cutB
      rw [if_pos h]
      exact ⟨fun x hx => by cases List.mem_singleton.mp hx; exact ⟨gb.rock, by show 1 ≤ lv - fl; omega, fun z e => by cases e; exact hn⟩, trivial⟩
    · have ih := good_cutB (name := name) (lv := lv) hn (fl := fl + b.th) Gr (by omega)
      rw [cutB, if_neg h]
      refine ⟨fun x hx => ?_, ?_⟩
      · rcases List.mem_cons.mp hx with rfl | hx
        · exact gb
        · exact ih.all x hx
      · rcases cutB_head (name := name) (lv := lv) (fl := fl + b.th) (bs := r) with e | ⟨b2, r2, x, s, e1, e2, e3, _⟩
        · subst e
          trivial
        · rw [e2]
          have p := ih.apart
          rw [e2] at p
          refine ⟨?_, p⟩
          rw [e3]
          have q := G.apart
          rw [e1] at q
          exact q.1
theorem cutB_len {name : Str} {lv : Int} : ∀ (fl : Int) (bs : List Bed), (cutB name lv fl bs).length ≤ bs.length
  | _, [] => Nat.le_refl _
  | fl, b :: r => by
    have := cutB_len (name := name) (lv := lv) (fl + b.th) r
    by_cases h : lv ≤ fl + b.th
    · rw [cutB, if_pos h]; show 1 ≤ r.length + 1; omega
    · rw [cutB, if_neg h]; show _ + 1 ≤ _ + 1; omega
theorem good_cutC {c : Col} {name : Str} {lv : Int} (G : GoodC c) (hn : wordB name = true) : GoodC (cutC c name lv) := by
  unfold cutC
  by_cases h1 : topC c < lv
  · rw [if_pos h1]; exact G
  · rw [if_neg h1]
    by_cases h2 : lv ≤ c.foot
    · rw [if_pos h2]
      exact ⟨G.root, (fun z e => by cases e; exact hn), ⟨(fun b hb => nomatch hb), trivial⟩⟩
    · rw [if_neg h2]
      exact ⟨G.root, G.cap, good_cutB hn G.beds (by omega)⟩
theorem cF_no {f : Int} {b : Addr} {r s : Option Str} {m : Str} (h1 : ¬ ("_foot" : Str) = m) (h2 : ¬ ("_beds" : Str) = m) (h3 : ¬ ("_root" : Str) = m) (h4 : ¬ ("_mark" : Str) = m) : (cF f b r s).lookup m = none := by
  unfold cF
  rw [lk_ne h1, lk_ne h2, lk_ne h3, lk_ne h4]
  rfl
/-! ### laid -/
def spLay (C : Addr) : Sp := fun vs H Q _ => ∃ (p : Addr) (c : Col) (X : Addr → Prop) (rock : Str) (lv : Int), vs = [.ref p, .str rock, .int lv] ∧ ColAt C X H p c ∧ GoodC c ∧ c.beds.length ≤ 800 ∧ wordB rock = true ∧
  ∀ H' p', ColAt C (Old H) H' p' (layC c rock lv) → Same H H' → Q (.ref p') H'
theorem scMLaid : FnScope ["self", "rock", "level", "beds", "thickness"] ["self", "rock", "level"] (defScope sMLaid) := ⟨rfl, rfl, rfl, by decide +kernel, rfl, by decide +kernel, by decide +kernel⟩
theorem ok_laid (C : ColF K mg) (T : Txt mg) (D : Defs K mg) : FnOk P w K mg base CX0 7 C.m1 C.e1 ["self", "rock", "level"] (spLay C.C) := by
  have GmWithl := ok_withL (P := P) (w := w) (base := base) C T D
  have GpTop := ok_top (P := P) (w := w) (base := base) C T
  obtain ⟨fN, fdN, DN, fL, fdL, DL, fNN, fdNN, DNN, fNL, fdNL, DNL, fNO, fdNO, DNO, fB, fdB, DB, fM, fdM, DM, fAB, fdAB, DAB, tN, mgN⟩ := id D
  have GNL : FnOk P w K mg base CX0 2 fNL fdNL ["value"] spNeedLevel := ok_need_level DNL.F T DL
  have GNN : FnOk P w K mg base CX0 2 fNN fdNN ["value"] spNeedName := ok_need_name DNN.F T DN mgN
  have GM : FnOk P w K mg base CX0 1 fM fdM ["bed", "rock"] spMerges := ok_merges DM.F
  refine C.FmLaid.ok scMLaid (fun vs H Q E h => ?_) (fun cdv A outer s H vs Q E hr h => ?_)
  · obtain ⟨p, c, X, rock, lv, rfl, _⟩ := h
    rfl
  · obtain ⟨p, c, X, rock, lv, rfl, CA, G, hl, hw, q⟩ := h
    have nd := scMLaid.nd
    refine ⟨_, (pss_cons (ps_expr (pe_call GNN (hr.mono (by decide)) (by rfl) DNN.M DNN.F.kp DNN.B .nil pass0 (pa_cons (pv 1) pa_nil)))
    (pss_cons (ps_expr (pe_call GNL (hr.mono (by decide)) (by rfl) DNL.M DNL.F.kp DNL.B .nil pass0 (pa_cons (pv 2) pa_nil)))
    (pss_cons (ps_set (i := 3) nd rfl (.inl rfl) (pe_callTy call_list_of (by rfl) T.list (by decide +kernel) (pa_cons (pe_fld (pv 0) rfl) pa_nil)))
    (pss_cons (ps_set (i := 4) nd rfl (.inl rfl) (pe_op op_sub (pv 2) (pe_prop (pv 0) C.cl C.pTop GpTop (hr.mono (by decide)) C.bTop .nil pass0 rfl)))
    (C8.pss_cut (ps_if (pt_cmpR op_gt (pv 4) pe_int (nomark _))
      (C8.pss_cut (ps_if (PW.pt (pw_and (pt_truth (pv 3) (by intro _; rfl)) (pw_and1 (pt_val (pe_call GM (hr.mono (by decide)) (by rfl) DM.M DM.F.kp DM.B .nil pass0 (pa_cons (pe_ix ix_list (pv 3) (pe_un un_neg pe_int) (fun _ _ => rfl)) (pa_cons (pv 1) pa_nil)))))))
      (pss_one (ps_set (i := 4) nd rfl (.inl rfl) (pe_op op_add (pv 4) (pe_ix ix_tup (pe_bm0 PySem.F.plainAttrs_list PySem.F.slot_list_pop PySem.F.type_list_pop mt_pop (pv 3)) pe_int (fun _ _ => rfl)))))
      pss_nil)
    (pss_one (ps_expr (pe_bm PySem.F.plainAttrs_list PySem.F.slot_list_append PySem.F.type_list_append mt_append (pv 3) (pa_cons (pe_tup (pa_cons (pv 1) (pa_cons (pv 4) (pa_cons pe_non pa_nil)))) pa_nil)))))
      pss_nil)
    (pss_one (ps_ret (pe_meth (pv 0) C.cl C.mWith GmWithl (hr.mono (by decide)) C.bWith .nil pass0 (pa_cons (pv 3) pa_nil))))))))), ?_⟩
    refine ⟨_, rfl, rock, rfl, hw, fun H1 s1 => ?_⟩
    refine ⟨_, rfl, lv, rfl, fun H2 s2 => ?_⟩
    have s12 := s1.trans s2
    have CA2 := CA.keep (Y := X) fun z o nz e => ⟨s12 _ _ e, nz⟩
    obtain ⟨⟨dx, b, xs, hp, nb, hb, S⟩, npX⟩ := id CA2
    have hlen := beds_len S
    -- beds = list(self._beds)
    refine ⟨_, rfl, p, C.C, dx, _, _, rfl, hp, C.cl, C.nBeds, cF_beds _ _ _ _, b, xs, rfl, .inr (.inl (.inl hb)), fun l nl => ?_⟩
    have s3 : Same H2 (upd H2 l (.lst xs)) := new_same nl
    have hl3 : (upd H2 l (.lst xs)) l = some (.lst xs) := upd_same
    generalize upd H2 l (.lst xs) = H3 at s3 hl3 ⊢
    have CA3 := CA2.keep (Y := X) fun z o nz e => ⟨s3 _ _ e, nz⟩
    -- thickness = level - self.top
    refine ⟨_, rfl, _, rfl, p, dx, _, rfl, s3 _ _ hp, p, c, X, rfl, CA3, by omega, fun H4 s4 => ⟨_, _, rfl, rfl, ?_⟩⟩
    have s24 := s3.trans s4
    have nlH : ∀ z o, H2 z = some o → z ≠ l := fun z o e => ne_of_none e nl
    -- if thickness > 0
    refine ⟨fun σ H' => ∃ (ys : List V) (y4 : Option V), σ = [some (.ref p), some (.str rock), some (.int lv), some (.ref l), y4] ∧ H' l = some (.lst ys) ∧ DVs (fun _ => False) H' ys ((layC c rock lv).beds.map bedD) ∧ Same H2 H', ?_, ?_⟩
    · refine ⟨_, rfl, _, _, rfl, rfl, _, rfl, ite2 (fun hpos => ?_) (fun hneg => ?_)⟩
      · have hpos' : 0 < lv - topC c := of_decide_eq_true hpos
        have eC : layC c rock lv = wB c (layB c.beds rock (lv - topC c)) := if_pos hpos'
        -- if beds and merges(beds[-1], rock)
        refine ⟨fun σ H' => ∃ (th : Int) (ys : List V) (bs : List Bed), σ = [some (.ref p), some (.str rock), some (.int lv), some (.ref l), some (.int th)] ∧ H' l = some (.lst ys) ∧ ys.length ≤ 800 ∧ DVs X H2 ys (bs.map bedD) ∧ bs ++ [⟨rock, th, none⟩] = layB c.beds rock (lv - topC c) ∧ (∀ z o, z ≠ l → H2 z = some o → H' z = some o), ?_, ?_⟩
        · refine ⟨_, rfl, !xs.isEmpty, .inl ⟨xs, .inl (.inl (s4 _ _ hl3)), rfl⟩, ?_⟩
          cases hx : c.beds.getLast? with
          | none =>
            have e0 : c.beds = [] := List.getLast?_eq_none_iff.mp hx
            have e1 : xs = [] := List.eq_nil_of_length_eq_zero (by rw [hlen, e0]; rfl)
            subst e1
            refine iteF ⟨_, [], [], rfl, s4 _ _ hl3, Nat.zero_le _, .nil, ?_, fun z o nz e => s24 _ _ e⟩
            unfold layB
            rw [hx]
            rfl
          | some bl =>
            have es := last_split hx
            have hn : 0 < c.beds.length := by rw [es, List.length_append]; show 0 < _ + 1; omega
            have hxs : xs ≠ [] := fun z => by rw [z] at hlen; simp at hlen; omega
            obtain ⟨v, hv⟩ : ∃ v, xs.getLast? = some v := ⟨_, List.getLast?_eq_getLast hxs⟩
            have ev := last_split hv
            have hiv : xs[xs.length - 1]? = some v := by rw [← List.getLast?_eq_getElem?]; exact hv
            obtain ⟨bd, ab, hbd, rfl, _, hab⟩ := beds_get S hiv
            have ebd : bd = bl := by
              rw [hlen, ← List.getLast?_eq_getElem?, hx] at hbd
              exact (Option.some.inj hbd).symm
            subst ebd
            have hab4 := s24 _ _ hab
            rw [show (!xs.isEmpty) = true by cases xs with | nil => exact absurd rfl hxs | cons a r => rfl]
            refine iteT ⟨_, rfl, 1, rfl, l, xs, -1, .ref ab, rfl, rfl, .inl (.inl (s4 _ _ hl3)), (by rw [ev]; exact atI_last _ _), _, rfl, ab, bd, rock, rfl, hab4, ⟨_, rfl, ite2 (fun hm => ?_) (fun hm => ?_)⟩⟩
            · have hm' := of_decide_eq_true hm
              refine ⟨_, rfl, _, rfl, .inl ⟨rfl, _, .inl (.inl (s4 _ _ hl3))⟩, l, xs, .ref ab, rfl, rfl, s4 _ _ hl3, hiv, ?_⟩
              have hab5 : (upd H4 l (.lst xs.dropLast)) ab = some (.tup (bedV bd)) := by rw [upd_ne (nlH _ _ hab)]; exact hab4
              refine ⟨ab, bedV bd, 1, .int bd.th, rfl, rfl, .inl (.inl hab5), rfl, _, _, rfl, rfl, ?_⟩
              refine ⟨_, xs.dropLast, c.beds.dropLast, rfl, upd_same, (by rw [List.length_dropLast]; omega), ?_, ?_, fun z o nz e => by rw [upd_ne nz]; exact s24 _ _ e⟩
              · have S' := S
                rw [ev, es, List.map_append] at S'
                exact dvs_init rfl S'
              · unfold layB
                rw [hx]
                show _ = if bd.rock = rock ∧ bd.mark = none then _ else _
                rw [if_pos hm', Int.add_comm]
            · have hm' : ¬ (bd.rock = rock ∧ bd.mark = none) := fun z => hm (decide_eq_true z)
              refine ⟨_, xs, c.beds, rfl, s4 _ _ hl3, (by omega), S, ?_, fun z o nz e => s24 _ _ e⟩
              unfold layB
              rw [hx]
              show _ = if bd.rock = rock ∧ bd.mark = none then _ else _
              rw [if_neg hm']
        · rintro σ H5 ⟨th, ys, bs, rfl, hl5, h800, S5, eB, k5⟩
          -- beds.append((rock, thickness, None))
          refine ⟨_, rfl, .inl ⟨rfl, _, .inl (.inl hl5)⟩, _, rfl, _, rfl, (by show 3 ≤ sizeLine; decide), fun t nt => ?_⟩
          have st := new_same (o := .tup [.str rock, .int th, .non]) nt
          have ntl : t ≠ l := fun z => by rw [z, hl5] at nt; cases nt
          have ht : (upd H5 t (.tup [.str rock, .int th, .non])) t = some (.tup [.str rock, .int th, .non]) := upd_same
          refine ⟨l, ys, _, rfl, rfl, st _ _ hl5, small1000 (by omega), ?_⟩
          have k6 : ∀ z o, z ≠ l → H2 z = some o → (upd (upd H5 t (.tup [.str rock, .int th, .non])) l (.lst (ys ++ [.ref t]))) z = some o := fun z o nz e => by rw [upd_ne nz]; exact st _ _ (k5 _ _ nz e)
          refine ⟨ys ++ [.ref t], _, rfl, upd_same, ?_, fun z o e => k6 z o (nlH _ _ e) e⟩
          rw [eC]
          show DVs _ _ _ ((layB c.beds rock (lv - topC c)).map bedD)
          rw [← eB, List.map_append]
          refine DVs.append (S5.keep fun z o nz e => ⟨k6 z o (nlH _ _ e) e, fun w => w⟩) (.cons (dv_bed (fun w => w) ?_) .nil)
          rw [upd_ne ntl]
          exact ht
      · have eC : layC c rock lv = c := if_neg fun z => hneg (decide_eq_true z)
        exact ⟨xs, _, rfl, s4 _ _ hl3, by rw [eC]; exact S.keep fun z o nz e => ⟨s24 _ _ e, fun w => w⟩, s24⟩
    · rintro σ H5 ⟨ys, y4, rfl, hl5, S5, s25⟩
      have CA5 := CA2.keep (Y := X) fun z o nz e => ⟨s25 _ _ e, nz⟩
      have eW : wB c (layC c rock lv).beds = layC c rock lv := by
        unfold layC
        by_cases h : 0 < lv - topC c
        · rw [if_pos h]; rfl
        · rw [if_neg h]; rfl
      have hlen2 : (layC c rock lv).beds.length ≤ 900 := by
        unfold layC
        by_cases h : 0 < lv - topC c
        · rw [if_pos h]; have := layB_len c.beds rock (lv - topC c); show (layB _ _ _).length ≤ 900; omega
        · rw [if_neg h]; omega
      refine ⟨_, rfl, p, dx, _, rfl, s25 _ _ hp, cF_no (by decide +kernel) (by decide +kernel) (by decide +kernel) (by decide +kernel), _, rfl, p, l, c, (layC c rock lv).beds, ys, X, fun _ => False, rfl, CA5, hl5, S5, (by rw [eW]; exact good_layC G hw), hlen2, fun H' p' A' s' => ?_⟩
      rw [eW] at A'
      exact q H' p' (A'.keep fun z o nz e => ⟨e, fun w => nz (same_old (s12.trans s25) w)⟩) ((s12.trans s25).trans s')
/-! ### cut_to -/
def spCut (C : Addr) : Sp := fun vs H Q _ => ∃ (p : Addr) (c : Col) (X : Addr → Prop) (name : Str) (lv : Int), vs = [.ref p, .str name, .int lv] ∧ ColAt C X H p c ∧ GoodC c ∧ c.beds.length ≤ 800 ∧ wordB name = true ∧
  ∀ H' p', ColAt C (Old H) H' p' (cutC c name lv) → Same H H' → Q (.ref p') H'
theorem cutB_step {name : Str} {lv fl : Int} {b : Bed} {r : List Bed} (h : ¬ lv ≤ fl + b.th) : cutB name lv fl (b :: r) = b :: cutB name lv (fl + b.th) r := by rw [cutB, if_neg h]
theorem cutB_stop {name : Str} {lv fl : Int} {b : Bed} {r : List Bed} (h : lv ≤ fl + b.th) : cutB name lv fl (b :: r) = [⟨b.rock, lv - fl, some name⟩] := by rw [cutB, if_pos h]
theorem scMCut : FnScope ["self", "name", "level", "kept", "floor", "rock", "thickness", "mark"] ["self", "name", "level"] (defScope sMCut) := ⟨rfl, rfl, rfl, by decide +kernel, rfl, by decide +kernel, by decide +kernel⟩
theorem ok_cut (C : ColF K mg) (T : Txt mg) (D : Defs K mg) : FnOk P w K mg base CX0 7 C.m2 C.e2 ["self", "name", "level"] (spCut C.C) := by
  have GmWithl := ok_withL (P := P) (w := w) (base := base) C T D
  have GmWitht := ok_withT (P := P) (w := w) (base := base) C T D
  have GpTop := ok_top (P := P) (w := w) (base := base) C T
  have GInitt := initT (P := P) (w := w) (base := base) C T D
  obtain ⟨fN, fdN, DN, fL, fdL, DL, fNN, fdNN, DNN, fNL, fdNL, DNL, fNO, fdNO, DNO, fB, fdB, DB, fM, fdM, DM, fAB, fdAB, DAB, tN, mgN⟩ := id D
  have GNL : FnOk P w K mg base CX0 2 fNL fdNL ["value"] spNeedLevel := ok_need_level DNL.F T DL
  have GNN : FnOk P w K mg base CX0 2 fNN fdNN ["value"] spNeedName := ok_need_name DNN.F T DN mgN
  refine C.FmCut.ok scMCut (fun vs H Q E h => ?_) (fun cdv A outer s H vs Q E hr h => ?_)
  · obtain ⟨p, c, X, name, lv, rfl, _⟩ := h
    rfl
  · obtain ⟨p, c, X, name, lv, rfl, CA, G, hl, hw, q⟩ := h
    have nd := scMCut.nd
    refine ⟨_, (pss_cons (ps_expr (pe_call GNN (hr.mono (by decide)) (by rfl) DNN.M DNN.F.kp DNN.B .nil pass0 (pa_cons (pv 1) pa_nil)))
    (pss_cons (ps_expr (pe_call GNL (hr.mono (by decide)) (by rfl) DNL.M DNL.F.kp DNL.B .nil pass0 (pa_cons (pv 2) pa_nil)))
    (pss_cons (ps_if (pt_cmpR op_lt (pe_prop (pv 0) C.cl C.pTop GpTop (hr.mono (by decide)) C.bTop .nil pass0 rfl) (pv 2) (nomark _))
      (pss_one (ps_ret (pe_meth (pv 0) C.cl C.mWith GmWitht (hr.mono (by decide)) C.bWith .nil pass0 (pa_cons (pe_fld (pv 0) rfl) pa_nil))))
      pss_nil)
    (pss_cons (ps_if (pt_cmpR op_le (pv 2) (pe_fld (pv 0) rfl) (nomark _))
      (pss_one (ps_ret (pe_makeN C.mkC GInitt (hr.mono (by decide)) (by rfl) C.mgC C.kb1rm pass0 (pa_cons (pv 2) pa_nil) (pk_cons (pe_fld (pv 0) rfl) (pk_cons (pv 1) pk_nil)))))
      pss_nil)
    (pss_cons (ps_set (i := 3) nd rfl (.inl rfl) (pe_lst pa_nil))
    (pss_cons (ps_set (i := 4) nd rfl (.inl rfl) (pe_fld (pv 0) rfl))
    (C8.pss_cut (ps_for PassesOwn.never rfl (pi_tup (pe_fld (pv 0) rfl)) (pg_tup rfl (pgs_cons (pg_name (i := 5) nd rfl (.inl rfl)) (pgs_cons (pg_name (i := 6) nd rfl (.inl rfl)) (pgs_cons (pg_name (i := 7) nd rfl (.inl rfl)) pgs_nil))))
      (pss_cons (ps_if (pt_cmpR op_ge (pe_op op_add (pv 4) (pv 6)) (pv 2) (nomark _))
      (pss_cons (ps_expr (pe_bm PySem.F.plainAttrs_list PySem.F.slot_list_append PySem.F.type_list_append mt_append (pv 3) (pa_cons (pe_tup (pa_cons (pv 5) (pa_cons (pe_op op_sub (pv 2) (pv 4)) (pa_cons (pv 1) pa_nil)))) pa_nil)))
    (pss_one ps_break))
      pss_nil)
    (pss_cons (ps_expr (pe_bm PySem.F.plainAttrs_list PySem.F.slot_list_append PySem.F.type_list_append mt_append (pv 3) (pa_cons (pe_tup (pa_cons (pv 5) (pa_cons (pv 6) (pa_cons (pv 7) pa_nil)))) pa_nil)))
    (pss_one (ps_set (i := 4) nd rfl (.inl rfl) (pe_op op_add (pv 4) (pv 6)))))))
    (pss_one (ps_ret (pe_meth (pv 0) C.cl C.mWith GmWithl (hr.mono (by decide)) C.bWith .nil pass0 (pa_cons (pv 3) pa_nil))))))))))), ?_⟩
    refine ⟨_, rfl, name, rfl, hw, fun H1 s1 => ?_⟩
    refine ⟨_, rfl, lv, rfl, fun H2 s2 => ?_⟩
    have CA2 := CA.keep (Y := X) fun z o nz e => ⟨(s1.trans s2) _ _ e, nz⟩
    obtain ⟨⟨dx, b, xs, hp, _, _, _⟩, _⟩ := id CA2
    -- if self.top < level
    refine ⟨_, rfl, p, dx, _, rfl, hp, p, c, X, rfl, CA2, by omega, fun H3 s3 => ⟨_, rfl, _, _, rfl, rfl, _, rfl, ?_⟩⟩
    have s13 := (s1.trans s2).trans s3
    have CA3 := CA.keep (Y := X) fun z o nz e => ⟨s13 _ _ e, nz⟩
    clear CA2 hp
    obtain ⟨⟨dx, b, xs, hp, nb, hb, S⟩, npX⟩ := id CA3
    have hlen := beds_len S
    have fin : ∀ c', cutC c name lv = c' → ∀ (Hx H' : Hp) p', Same H Hx → ColAt C.C (Old Hx) H' p' c' → Same Hx H' → Q (.ref p') H' := fun c' e Hx H' p' sx A' s' =>
      q H' p' (e ▸ A'.keep fun z o nz e => ⟨e, fun w => nz (same_old sx w)⟩) (sx.trans s')
    refine ite2 (fun h1 => ?_) (fun h1 => ?_)
    · have h1' : topC c < lv := of_decide_eq_true h1
      have eC : cutC c name lv = c := if_pos h1'
      refine ⟨_, rfl, p, dx, _, rfl, hp, cF_no (by decide +kernel) (by decide +kernel) (by decide +kernel) (by decide +kernel), _, rfl, p, C.C, dx, _, _, rfl, hp, C.cl, C.nBeds, cF_beds _ _ _ _, p, b, c, c.beds, xs, X, X, rfl, CA3, hb, S, G, by omega, fun H' p' A' s' => ?_⟩
      exact fin c eC H3 H' p' s13 A' s'
    have h1' : ¬ topC c < lv := fun z => h1 (decide_eq_true z)
    -- if level <= self._foot
    refine ⟨_, rfl, _, rfl, p, C.C, dx, _, _, rfl, hp, C.cl, C.nFoot, cF_foot _ _ _ _, _, _, rfl, rfl, _, rfl, ite2 (fun h2 => ?_) (fun h2 => ?_)⟩
    · have h2' : lv ≤ c.foot := of_decide_eq_true h2
      have eC : cutC c name lv = ⟨c.root, lv, some name, []⟩ := by unfold cutC; rw [if_neg h1', if_pos h2']
      refine ⟨_, rfl, _, rfl, p, C.C, dx, _, _, rfl, hp, C.cl, C.nRoot, cF_root _ _ _ _, _, rfl, rfl, rfl, ?_⟩
      exact make_goalT (c := ⟨c.root, lv, some name, []⟩) (X := fun _ => False) (C.ht0 _) (C.ty0 _) .nil ⟨G.root, (fun z e => by cases e; exact hw), ⟨(fun b hb => nomatch hb), trivial⟩⟩ (Nat.zero_le _) fun H' p' A' s' => fin _ eC H3 H' p' s13 A' s'
    have h2' : c.foot < lv := by have : ¬ lv ≤ c.foot := fun z => h2 (decide_eq_true z); omega
    have eC : cutC c name lv = wB c (cutB name lv c.foot c.beds) := by unfold cutC; rw [if_neg h1', if_neg (by omega)]
    -- kept = []; floor = self._foot
    refine ⟨Nat.zero_le _, fun l nl => ?_⟩
    have s4 : Same H3 (upd H3 l (.lst [])) := new_same nl
    have hl4 : (upd H3 l (.lst [])) l = some (.lst []) := upd_same
    generalize upd H3 l (.lst []) = H4 at s4 hl4 ⊢
    have nlH : ∀ z o, H3 z = some o → z ≠ l := fun z o e => ne_of_none e nl
    refine ⟨_, rfl, p, C.C, dx, _, _, rfl, s4 _ _ hp, C.cl, C.nFoot, cF_foot _ _ _ _, ?_⟩
    -- the loop
    refine ⟨fun σ H' => ∃ (ys : List V) (y4 y5 y6 y7 : Option V), σ = [some (.ref p), some (.str name), some (.int lv), some (.ref l), y4, y5, y6, y7] ∧ H' l = some (.lst ys) ∧ DVs (fun z => z = l) H' ys ((cutB name lv c.foot c.beds).map bedD) ∧ Same H3 H', ?_, ?_⟩
    · refine ⟨_, rfl, p, C.C, dx, _, _, rfl, s4 _ _ hp, C.cl, C.nBeds, cF_beds _ _ _ _, b, rfl, ⟨_, .inl (.inl (s4 _ _ hb))⟩, ?_⟩
      refine for_tup (K := K) (a := b) (xs := xs) (fun i σ Hi => ∃ (ys : List V) (fl : Int) (y5 y6 y7 : Option V), σ = [some (.ref p), some (.str name), some (.int lv), some (.ref l), some (.int fl), y5, y6, y7] ∧ fl < lv ∧ Hi l = some (.lst ys) ∧ ys.length = i ∧ Same H3 Hi ∧
          DVs (fun z => z = l) Hi ys ((c.beds.take i).map bedD) ∧ cutB name lv c.foot c.beds = c.beds.take i ++ cutB name lv fl (c.beds.drop i))
        ⟨[], c.foot, none, none, none, rfl, h2', hl4, rfl, s4, .nil, rfl⟩ (fun i σ Hi _ ⟨_, _, _, _, _, _, _, _, _, si, _⟩ => .inl (.inl (si _ _ hb))) ?_ ?_
      · rintro i x σ Hi hx ⟨ys, fl, y5, y6, y7, rfl, hfl, hyl, hyn, si, Sy, eB⟩
        obtain ⟨bd, ab, hbd, rfl, _, hab⟩ := beds_get S hx
        have hi : i < c.beds.length := (List.getElem?_eq_some_iff.mp hbd).1
        have ed : c.beds.drop i = bd :: c.beds.drop (i + 1) := by
          rw [List.drop_eq_getElem_cons hi]
          rw [List.getElem?_eq_getElem hi] at hbd
          rw [Option.some.inj hbd]
        refine ⟨ab, _, rfl, .inl (.inl (si _ _ hab)), rfl, _, _, rfl, _, _, rfl, _, _, rfl, rfl, ?_⟩
        -- if floor + thickness >= level
        refine ⟨_, rfl, _, rfl, _, _, rfl, rfl, _, rfl, _, _, rfl, rfl, _, rfl, ite2 (fun hc => ?_) (fun hc => ?_)⟩
        · have hc' : lv ≤ fl + bd.th := of_decide_eq_true hc
          refine ⟨_, rfl, .inl ⟨rfl, _, .inl (.inl hyl)⟩, _, rfl, _, rfl, _, rfl, _, _, rfl, rfl, _, rfl, (by show 3 ≤ sizeLine; decide), fun t nt => ?_⟩
          have st := new_same (o := .tup [.str bd.rock, .int (lv - fl), .str name]) nt
          have ntl : t ≠ l := fun z => by rw [z, hyl] at nt; cases nt
          have ht : (upd Hi t (.tup [.str bd.rock, .int (lv - fl), .str name])) t = some (.tup [.str bd.rock, .int (lv - fl), .str name]) := upd_same
          refine ⟨l, ys, _, rfl, rfl, st _ _ hyl, small1000 (by omega), ?_⟩
          refine ⟨ys ++ [.ref t], _, _, _, _, rfl, upd_same, ?_, fun z o e => by rw [upd_ne (nlH _ _ e)]; exact st _ _ (si _ _ e)⟩
          rw [eB, ed, cutB_stop hc', List.map_append]
          refine (DVs.append (Sy.keep fun z o nz e => ⟨st _ _ e, nz⟩) (.cons (dv_bed (b := ⟨bd.rock, lv - fl, some name⟩) ntl ht) .nil)).keep fun z o nz e => ⟨by rw [upd_ne nz]; exact e, nz⟩
        · have hc' : ¬ lv ≤ fl + bd.th := fun z => hc (decide_eq_true z)
          refine ⟨_, rfl, .inl ⟨rfl, _, .inl (.inl hyl)⟩, _, rfl, _, rfl, _, rfl, (by show 3 ≤ sizeLine; decide), fun t nt => ?_⟩
          have st := new_same (o := .tup [.str bd.rock, .int bd.th, oV bd.mark]) nt
          have ntl : t ≠ l := fun z => by rw [z, hyl] at nt; cases nt
          have ht : (upd Hi t (.tup [.str bd.rock, .int bd.th, oV bd.mark])) t = some (.tup [.str bd.rock, .int bd.th, oV bd.mark]) := upd_same
          refine ⟨l, ys, _, rfl, rfl, st _ _ hyl, small1000 (by omega), ?_⟩
          refine ⟨_, rfl, _, rfl, _, _, rfl, rfl, ?_⟩
          have et : c.beds.take (i + 1) = c.beds.take i ++ [bd] := by rw [List.take_add_one, hbd]; rfl
          refine ⟨ys ++ [.ref t], fl + bd.th, _, _, _, rfl, by omega, upd_same, by rw [List.length_append, hyn]; rfl, fun z o e => by rw [upd_ne (nlH _ _ e)]; exact st _ _ (si _ _ e), ?_, ?_⟩
          · rw [et, List.map_append]
            refine (DVs.append (Sy.keep fun z o nz e => ⟨st _ _ e, nz⟩) (.cons (dv_bed ntl ht) .nil)).keep fun z o nz e => ⟨by rw [upd_ne nz]; exact e, nz⟩
          · rw [eB, ed, cutB_step hc', et, List.append_assoc]
            rfl
      · rintro σ Hi ⟨ys, fl, y5, y6, y7, rfl, hfl, hyl, hyn, si, Sy, eB⟩
        rw [hlen, List.take_length] at Sy
        rw [hlen, List.take_length, List.drop_length] at eB
        refine ⟨ys, _, _, _, _, rfl, hyl, ?_, si⟩
        rw [eB]
        show DVs _ _ _ ((c.beds ++ []).map bedD)
        rw [List.append_nil]
        exact Sy
    · rintro σ H5 ⟨ys, y4, y5, y6, y7, rfl, hl5, S5, s35⟩
      have CA5 := CA3.keep (Y := X) fun z o nz e => ⟨s35 _ _ e, nz⟩
      have hle := cutB_len (name := name) (lv := lv) c.foot c.beds
      refine ⟨_, rfl, p, dx, _, rfl, s35 _ _ hp, cF_no (by decide +kernel) (by decide +kernel) (by decide +kernel) (by decide +kernel), _, rfl, p, l, c, cutB name lv c.foot c.beds, ys, X, _, rfl, CA5, hl5, S5, ⟨G.root, G.cap, good_cutB hw G.beds h2'⟩, by omega, fun H' p' A' s' => ?_⟩
      exact fin _ eC H5 H' p' (s13.trans s35) A' s'
/-! ### feed, word -/
theorem Feed.same {H H' : Hp} {d c : Addr} {ns : List Int} {n : Nat} (F : Feed H d c ns n) (S : Same H H') : Feed H' d c ns n := by
  obtain ⟨⟨l, l0, e⟩, hc, hl⟩ := F
  exact ⟨⟨l, l0, S _ _ e⟩, S _ _ hc, hl⟩
def spFeed (K : PySem.W.Frag) : Sp := fun vs H Q _ => ∃ (a : Addr) (ns : List Int), vs = [.ref a] ∧ SqL K H a (ns.map V.int) ∧ ns.length ≤ 63 ∧
  ∀ (d c : Addr) (H' : Hp), Feed H' d c ns 0 → Same H H' → H d = none → Q (.ref d) H'
theorem merge_fk (c : Addr) (n l : Int) : mergeK [] (fk c n l) = fk c n l := by
  have e1 : ¬ kA = kC := fun h => nCA h.symm
  unfold fk mergeK putK
  simp only [List.foldl_cons, List.foldl_nil, List.any_nil, List.any_cons, Bool.false_eq_true, if_false, List.nil_append, nCA, nCL, nAL, decide_false, Bool.or_false, List.cons_append, Bool.or_self]
theorem scFeed : FnScope ["_law_script"] ["_law_script"] (defScope sFeed) := ⟨rfl, rfl, rfl, by decide +kernel, rfl, by decide +kernel, by decide +kernel⟩
theorem ok_feed {f : Addr} {fd : FuncData} (F : Fun K "_law_feed" "_law_feed" sFeed f fd) (T : Txt mg) : FnOk P w K mg base CX0 1 f fd ["_law_script"] (spFeed K) := by
  refine F.ok scFeed (fun vs H Q E h => ?_) (fun cdv A outer s H vs Q E hr h => ?_)
  · obtain ⟨a, ns, rfl, _⟩ := h
    rfl
  · obtain ⟨a, ns, rfl, hS, hl, q⟩ := h
    have hu := hu_of hr
    have nd := scFeed.nd
    refine ⟨_, (pss_one (ps_ret (pe_disp (pps_cons pe_str (pe_callTy call_list_of (by rfl) T.list (by decide +kernel) (pa_cons (pe_slice sl_list (pv 0) po_none (po_some pe_int)) pa_nil)) (pps_cons pe_str pe_int (pps_cons pe_str pe_int pps_nil))) (by rfl) (by rfl) (fun z => by cases z) (by decide)))), ?_⟩
    intro p np
    have s0 : Same H (upd H p (.dK [])) := new_same np
    refine ⟨.ref a, rfl, 63, rfl, a, _, rfl, s0.seq hS, fun c0 nc0 => ?_⟩
    have ec : cutV (ns.map V.int) none (some 63) = ns.map V.int := by
      unfold cutV
      rw [HT.sIx_none, show HT.sIx (ns.map V.int).length (ns.map V.int).length (some 63) = min 63 (ns.map V.int).length from HT.sIx_nat _ _ 63, List.drop_zero, List.length_map, Nat.min_eq_right hl, Nat.sub_zero]
      exact List.take_of_length_le (by rw [List.length_map]; exact Nat.le_refl _)
    rw [ec]
    refine ⟨c0, ns.map V.int, rfl, .inl (.inl (.inl upd_same)), fun c nc => ?_⟩
    have s1 := new_same (o := .lst (ns.map V.int)) nc0
    have s2 := new_same (o := .lst (ns.map V.int)) nc
    have hp2 := s2 _ _ (s1 _ _ (upd_same (H := H) (a := p) (o := .dK [])))
    refine ⟨hp2, fk c 0 0, rfl, (by show 3 ≤ 15; decide), ?_⟩
    rw [merge_fk]
    have ncp : c ≠ p := fun e => by rw [e] at nc; rw [s1 _ _ upd_same] at nc; cases nc
    refine q p c _ ⟨⟨0, Int.le_refl _, upd_same⟩, by rw [upd_ne ncp, upd_same], hl⟩ (fill_same np fun b x nb e => s2 _ _ (s1 _ _ (by rw [upd_ne nb]; exact e))) np
/-! ### names that the law draws -/
def Low (z : Str) : Prop := ∀ c ∈ z.cps.toList, lowB c = true
theorem word_of {z : Str} (h1 : 1 ≤ z.cps.toList.length) (h8 : z.cps.toList.length ≤ 8) (hl : Low z) : wordB z = true := by
  unfold wordB
  rw [decide_eq_true h1, decide_eq_true h8, List.all_eq_true.mpr hl]
  rfl
theorem cutm {z : Str} {lo hi : Option Int} {c : Nat} (h : c ∈ (cutS z lo hi).cps.toList) : c ∈ z.cps.toList := List.mem_of_mem_drop (List.mem_of_mem_take h)
theorem cutl (z : Str) (lo hi : Option Int) : (cutS z lo hi).cps.toList.length ≤ z.cps.toList.length := by
  show (List.take _ (List.drop _ _)).length ≤ _
  rw [List.length_take, List.length_drop]
  omega
theorem cut_to_len (z : Str) (k : Nat) : (cutS z none (some (k : Int))).cps.toList.length ≤ k := by
  show (List.take (HT.sIx z.length z.length (some (k : Int)) - HT.sIx z.length 0 none) _).length ≤ _
  rw [HT.sIx_nat, HT.sIx_none, List.length_take]
  omega
theorem cut_from_len (z : Str) (k : Nat) : (cutS z (some (k : Int)) none).cps.toList.length ≤ z.cps.toList.length - k := by
  show (List.take (HT.sIx z.length z.length none - HT.sIx z.length 0 (some (k : Int))) _).length ≤ _
  have e : z.length = z.cps.toList.length := rfl
  rw [HT.sIx_nat, HT.sIx_none, List.length_take, e]
  omega
theorem appl (a b : Str) : (a ++ b).cps.toList = a.cps.toList ++ b.cps.toList := by
  show (a.cps ++ b.cps).toList = _
  exact Array.toList_append
theorem joinl_one : ∀ cs : List Nat, TL.joinL [] (cs.map fun c => [c]) = cs
  | [] => rfl
  | [c] => rfl
  | c :: x :: r => by
    show [c] ++ ([] ++ TL.joinL [] ((x :: r).map fun c => [c])) = _
    rw [joinl_one (x :: r)]
    rfl
theorem joinchars (cs : List Nat) : Txt.join "" (cs.map fun c => (⟨#[c]⟩ : Str)) = ⟨cs.toArray⟩ := by
  have h := SX.join_S [] (cs.map fun c => [c])
  rw [joinl_one, List.map_map] at h
  exact h
theorem abc_all : ∀ c ∈ (Str.ofString "abcdefghijklmnopqrstuvwxyz").cps.toList, lowB c = true := by decide +kernel
theorem abc_get (i : Nat) (h : i < 26) : ∃ c, (Str.ofString "abcdefghijklmnopqrstuvwxyz").cps[i]? = some c ∧ lowB c = true := by
  have hs : (Str.ofString "abcdefghijklmnopqrstuvwxyz").cps.size = 26 := by decide +kernel
  refine ⟨(Str.ofString "abcdefghijklmnopqrstuvwxyz").cps[i]'(by omega), Array.getElem?_eq_getElem _, abc_all _ (Array.getElem_mem_toList _)⟩
theorem lens_one : ∀ l : List Nat, (l.map ((·.length) ∘ fun c => (⟨#[c]⟩ : Str))).sum = l.length
  | [] => rfl
  | a :: r => by rw [List.map_cons, List.sum_cons, lens_one r, List.length_cons]; show 1 + r.length = _; omega
theorem at_two (x y : V) (i : Int) (h0 : 0 ≤ i) (h1 : i < 2) (hx : ∃ t : Int, x = .int t) (hy : ∃ t : Int, y = .int t) : ∃ t : Int, atI [x, y] i = some (.int t) := by
  obtain ⟨a, rfl⟩ := hx
  obtain ⟨b, rfl⟩ := hy
  have h : i = 0 ∨ i = 1 := by omega
  rcases h with rfl | rfl
  · exact ⟨a, rfl⟩
  · exact ⟨b, rfl⟩
def spNames : Sp := fun vs H Q _ => ∃ (d c : Addr) (ns : List Int) (n m : Nat), vs = [.ref d, .int m] ∧ Feed H d c ns n ∧ n + 20 < 1000000000 ∧ 1 ≤ m ∧ m ≤ 10 ∧
  ∀ (a : Addr) (zs : List Str) (H' : Hp) (n' : Nat), H' a = some (.lst (zs.map V.str)) → zs.length = m → (∀ z ∈ zs, wordB z = true) → ¬ Old H a → n' ≤ n + 20 → Feed H' d c ns n' → Keep d H H' → Q (.ref a) H'
theorem scNames : FnScope ["_law_feed_here", "_law_many", "_law_letters", "_law_base", "_law_at", "_law_begin", "_law_short", "_law_step", "_law_signs", "_law_tails", "_law_k"] ["_law_feed_here", "_law_many"] (defScope sNames) := ⟨rfl, rfl, rfl, by decide +kernel, rfl, by decide +kernel, by decide +kernel⟩
set_option maxHeartbeats 4000000 in
theorem ok_names {f fD fP : Addr} {fd fdD fdP : FuncData} (F : Fun K "_law_names" "_law_names" sNames f fd) (T : Txt mg) (D : DefAt K mg "_law_draw" sDraw ["_law_feed_here", "_law_many"] fD fdD) (DP : DefAt K mg "_law_pick" sPick ["_law_feed_here", "_law_options"] fP fdP) : FnOk P w K mg base CX0 3 f fd ["_law_feed_here", "_law_many"] spNames := by
  have GD : FnOk P w K mg base CX0 1 fD fdD ["_law_feed_here", "_law_many"] spDraw := ok_draw D.F T
  have GPl : FnOk P w K mg base CX0 2 fP fdP ["_law_feed_here", "_law_options"] spPickL := ok_pickL DP.F T D
  have GPs : FnOk P w K mg base CX0 2 fP fdP ["_law_feed_here", "_law_options"] spPickS := ok_pickS DP.F T D
  refine F.ok scNames (fun vs H Q E h => ?_) (fun cdv A outer s H vs Q E hr h => ?_)
  · obtain ⟨d, c, ns, n, m, rfl, _⟩ := h
    rfl
  · obtain ⟨d, c, ns, n, m, rfl, FD, hn, hm1, hm, q⟩ := h
    have hu := hu_of hr
    have nd := scNames.nd
    refine ⟨_, (pss_cons (ps_set (i := 2) nd rfl (.inr rfl) pe_str)
    (pss_cons (ps_set (i := 3) nd rfl (.inr rfl) (pe_join pe_str (pe_lc (own := [("_law_k", 10)]) (g := gName 10) (by rfl) nd (pi_range1 (by rfl) T.range (pa_cons (pe_op op_add pe_int (pe_call GD (hr.mono (by decide)) (by rfl) D.M D.F.kp D.B .nil pass0 (pa_cons (pv 0) (pa_cons pe_int pa_nil)))) pa_nil)) (blkOk_by (own := [("_law_k", 10)]) (N := ["_law_feed_here", "_law_many", "_law_letters", "_law_base", "_law_at", "_law_begin", "_law_short", "_law_step", "_law_signs", "_law_tails", "_law_k"]) (sc := defScope sNames) (by decide +kernel)) (fun _ _ _ _ _ => (pg_name (i := 10) nd rfl (Or.inl rfl))) (fun _ _ _ _ _ => pts_nil) (fun _ _ _ _ _ => (pe_call GPs (hr.mono (by decide)) (by rfl) DP.M DP.F.kp DP.B .nil pass0 (pa_cons (pv 0) (pa_cons (pv 2) pa_nil)))))))
    (pss_cons (ps_asg (pe_tup (pa_cons (pe_call GD (hr.mono (by decide)) (by rfl) D.M D.F.kp D.B .nil pass0 (pa_cons (pv 0) (pa_cons (pe_callB call_len_str (by rfl) T.len (by decide +kernel) (pa_cons (pv 3) pa_nil)) pa_nil))) (pa_cons (pe_call GD (hr.mono (by decide)) (by rfl) D.M D.F.kp D.B .nil pass0 (pa_cons (pv 0) (pa_cons pe_int pa_nil))) (pa_cons (pe_call GD (hr.mono (by decide)) (by rfl) D.M D.F.kp D.B .nil pass0 (pa_cons (pv 0) (pa_cons pe_int pa_nil))) pa_nil)))) (pg_tup rfl (pgs_cons (pg_name (i := 4) nd rfl (.inr rfl)) (pgs_cons (pg_name (i := 5) nd rfl (.inr rfl)) (pgs_cons (pg_name (i := 6) nd rfl (.inr rfl)) pgs_nil)))))
    (pss_cons (ps_set (i := 7) nd rfl (.inr rfl) (pe_call GPl (hr.mono (by decide)) (by rfl) DP.M DP.F.kp DP.B .nil pass0 (pa_cons (pv 0) (pa_cons (pe_lst (pa_cons pe_int (pa_cons pe_int (pa_cons pe_int (pa_cons pe_int (pa_cons pe_int (pa_cons pe_int (pa_cons pe_int (pa_cons pe_int (pa_cons pe_int (pa_cons pe_int (pa_cons pe_int (pa_cons pe_int pa_nil))))))))))))) pa_nil))))
    (pss_cons (ps_set (i := 8) nd rfl (.inr rfl) (pe_lc (own := [("_law_k", 10)]) (g := gName 10) (by rfl) nd (pi_range1 (by rfl) T.range (pa_cons (pv 1) pa_nil)) (blkOk_by (own := [("_law_k", 10)]) (N := ["_law_feed_here", "_law_many", "_law_letters", "_law_base", "_law_at", "_law_begin", "_law_short", "_law_step", "_law_signs", "_law_tails", "_law_k"]) (sc := defScope sNames) (by decide +kernel)) (fun _ _ _ _ _ => (pg_name (i := 10) nd rfl (Or.inl rfl))) (fun _ _ _ _ _ => pts_nil) (fun _ _ _ _ _ => (pe_item_str (pv 2) (pe_op op_modN (pe_callTy call_int1 (by rfl) T.int (by decide +kernel) (pa_cons (pe_op op_add (pv 5) (pe_op op_mul (pv 7) (pv 10))) pa_nil)) pe_int) (fun _ _ => rfl)))))
    (pss_cons (ps_set (i := 9) nd rfl (.inr rfl) (pe_lc (own := [("_law_k", 10)]) (g := gName 10) (by rfl) nd (pi_range1 (by rfl) T.range (pa_cons (pv 1) pa_nil)) (blkOk_by (own := [("_law_k", 10)]) (N := ["_law_feed_here", "_law_many", "_law_letters", "_law_base", "_law_at", "_law_begin", "_law_short", "_law_step", "_law_signs", "_law_tails", "_law_k"]) (sc := defScope sNames) (by decide +kernel)) (fun _ _ _ _ _ => (pg_name (i := 10) nd rfl (Or.inl rfl))) (fun _ _ _ _ _ => pts_nil) (fun _ _ _ _ _ => (pe_slice sl_str (pe_slice sl_str (pv 3) (po_some (pe_op op_add (pv 4) pe_int)) po_none) po_none (po_some (pe_ix (show IxR _ (rIxL K) from ix_list) (pe_lst (pa_cons pe_int (pa_cons (pe_op op_modN (pe_callTy call_int1 (by rfl) T.int (by decide +kernel) (pa_cons (pv 10) pa_nil)) pe_int) pa_nil))) (pv 6) (fun _ _ => rfl)))))))
    (pss_one (ps_ret (pe_lc (own := [("_law_k", 10)]) (g := gName 10) (by rfl) nd (pi_range1 (by rfl) T.range (pa_cons (pv 1) pa_nil)) (blkOk_by (own := [("_law_k", 10)]) (N := ["_law_feed_here", "_law_many", "_law_letters", "_law_base", "_law_at", "_law_begin", "_law_short", "_law_step", "_law_signs", "_law_tails", "_law_k"]) (sc := defScope sNames) (by decide +kernel)) (fun _ _ _ _ _ => (pg_name (i := 10) nd rfl (Or.inl rfl))) (fun _ _ _ _ _ => pts_nil) (fun _ _ _ _ _ => (pe_op op_add_str (pe_op op_add_str (pe_slice sl_str (pv 3) po_none (po_some (pv 4))) (pe_ix (show IxR _ (rIxL K) from ix_list) (pv 8) (pv 10) (fun _ _ => rfl))) (pe_ix (show IxR _ (rIxL K) from ix_list) (pv 9) (pv 10) (fun _ _ => rfl))))))))))))), ?_⟩
    -- base = ''.join([..])
    refine ⟨⟨_, rfl⟩, .ref d, rfl, d, c, ns, n, 8, rfl, FD, by omega, by decide, by decide, fun r H1 n1 r0 r1 hn1 F1 K1 => ⟨_, _, rfl, rfl, 1 + r, rfl, by omega, by omega, fun D nD => ?_⟩⟩
    refine lc_range (lo := 0) (n := (1 + r).toNat) (fun i Hi => ∃ (n' : Nat) (cs : List Nat), n' ≤ n + 1 + i ∧ Feed Hi d c ns n' ∧ Keep d H1 Hi ∧ Hi D = some (.lst ((cs.map fun c => (⟨#[c]⟩ : Str)).map V.str)) ∧ cs.length = i ∧ ∀ c ∈ cs, lowB c = true) ?_ ?_ ?_
    · obtain ⟨U, r, F, k', h, _⟩ := nu F1 nD
      rw [r]
      exact ⟨n1, [], by omega, F _, k' _, h _, rfl, fun x hx => nomatch hx⟩
    · rintro i Hi hi ⟨n', cs, hn', Fi, ki, hD, hl, hc⟩
      refine ⟨rfl, .ref d, rfl, _, rfl, d, c, ns, n', _, rfl, Fi, by omega, (by decide +kernel), (by decide +kernel), fun x H' n'' hx hn'' F' K' => ?_⟩
      have hnD : D ≠ d := F1.nd nD
      have nc : D ≠ c := F1.nc nD
      obtain ⟨U, r, F, k', h, ho⟩ := fu F' nD (fun b o nb nb' e => K' _ _ nb (ki _ _ nb e)) hnD nc
      refine ⟨_, K' _ _ hnD hD, (by rw [List.length_map, List.length_map, hl]; exact small1000 (by omega)), n'', cs ++ [x], by omega, ?_⟩
      rw [r]
      refine ⟨F _, k' _, (by rw [h, List.map_append, List.map_append]; rfl), (by rw [List.length_append, hl]; rfl), fun y hy => ?_⟩
      rcases List.mem_append.mp hy with hy | hy
      · exact hc y hy
      · cases List.mem_singleton.mp hy
        exact abc_all _ hx
    rintro H2 ⟨n2, cs, hn2, F2, k2, hD, hl, hc⟩
    have hl8 : cs.length ≤ 8 := by omega
    have hl1 : 1 ≤ cs.length := by omega
    refine ⟨_, D, cs.map fun c => (⟨#[c]⟩ : Str), rfl, rfl, .inl (.inl (.inl hD)), ?_, ?_⟩
    · rw [List.map_map, lens_one, List.length_map, show (Str.ofString "").length = 0 by decide +kernel]
      omega
    rw [joinchars]
    have eF : (⟨cs.toArray⟩ : Str).cps.toList = cs := rfl
    generalize (⟨cs.toArray⟩ : Str) = z at eF ⊢
    have zl : z.cps.toList.length ≤ 8 := by rw [eF]; exact hl8
    have zl1 : 1 ≤ z.cps.toList.length := by rw [eF]; exact hl1
    have zc : Low z := fun c h => hc c (by rw [← eF]; exact h)
    have zs : z.length ≤ sizeLine := len_le zl (by decide)
    have ez : z.length = z.cps.toList.length := rfl
    have K2 := K1.trans k2
    clear hc hD hl hl8 hl1 eF F1 k2 K1 nD
    -- at, begin, short = ..
    refine ⟨.ref d, rfl, .str z, rfl, z, rfl, zs, d, c, ns, n2, _, rfl, F2, by omega, by omega, by omega, fun at_ H3 n3 a0 a1 hn3 F3 K3 => ?_⟩
    refine ⟨.ref d, rfl, d, c, ns, n3, 26, rfl, F3, by omega, by decide, by decide, fun bg H4 n4 b0 b1 hn4 F4 K4 => ?_⟩
    refine ⟨.ref d, rfl, d, c, ns, n4, 2, rfl, F4, by omega, by decide, by decide, fun sh H5 n5 c0 c1 hn5 F5 K5 => ?_⟩
    obtain ⟨ka, rfl⟩ : ∃ k : Nat, at_ = (k : Int) := ⟨at_.toNat, by omega⟩
    refine ⟨(by show 3 ≤ sizeLine; decide), fun p np => ?_⟩
    obtain ⟨U6, r6, F6, k6, h6, n6⟩ := nu F5 np
    rw [r6]
    refine ⟨p, _, rfl, .inl (.inl (h6 _)), rfl, _, _, rfl, _, _, rfl, _, _, rfl, rfl, ?_⟩
    have K26 := fun o => K2.trans (K3.trans (K4.trans (K5.trans (k6 o))))
    -- step = pick(..)
    refine ⟨.ref d, rfl, (by show 12 ≤ sizeLine; decide), fun p7 np7 => ?_⟩
    obtain ⟨U7, r7, F7, k7, h7, n7⟩ := nu (F6 _) np7
    rw [r7]
    refine ⟨d, c, ns, n5, p7, _, rfl, F7 _, by omega, h7 _, (by show 0 < 12; decide), (by show 12 < 1000000; decide), fun y H8 n8 hy hn8 F8 K8 => ?_⟩
    have hy' : ∃ t : Int, y = .int t ∧ 0 ≤ t ∧ t ≤ 25 := by
      have all : ∀ v ∈ ([.int 1, .int 3, .int 5, .int 7, .int 9, .int 11, .int 15, .int 17, .int 19, .int 21, .int 23, .int 25] : List V), ∃ t : Int, v = .int t ∧ 0 ≤ t ∧ t ≤ 25 := by
        intro v hv
        simp only [List.mem_cons, List.not_mem_nil, or_false] at hv
        rcases hv with rfl | rfl | rfl | rfl | rfl | rfl | rfl | rfl | rfl | rfl | rfl | rfl <;> exact ⟨_, rfl, by decide, by decide⟩
      exact all y hy
    obtain ⟨st, rfl, st0, st1⟩ := hy'
    have K08 := (K26 _).trans ((k7 _).trans K8)
    have n58 : n8 ≤ n + 20 := by omega
    clear K26 K2 K3 K4 K5 k6 k7 K8 F2 F3 F4 F5 F6 F7 r6 r7 h6 h7 np np7
    -- signs
    refine ⟨_, rfl, m, rfl, by omega, by omega, fun D nD => ?_⟩
    refine lc_range (lo := 0) (n := (m : Int).toNat) (fun i Hi => Same H8 Hi ∧ ∃ cs : List Nat, Hi D = some (.lst (cs.map fun c => V.str ⟨#[c]⟩)) ∧ cs.length = i ∧ ∀ c ∈ cs, lowB c = true) ⟨new_same nD, [], upd_same, rfl, fun x hx => nomatch hx⟩ ?_ ?_
    · rintro i Hi hi ⟨si, cs, hD, hl, hc⟩
      have e26 : (Str.ofString "abcdefghijklmnopqrstuvwxyz").length = 26 := by decide +kernel
      have m0 := fmod_lo (bg + st * (0 + (i : Int))) (b := 26) (by decide)
      have m1 := fmod_hi (bg + st * (0 + (i : Int))) (b := 26) (by decide)
      obtain ⟨ch, hch, lch⟩ := abc_get ((bg + st * (0 + (i : Int))).fmod 26).toNat (by omega)
      refine ⟨rfl, _, rfl, .int bg, rfl, .int st, rfl, .int (0 + (i : Int)), rfl, st, _, rfl, rfl, .inl ⟨by omega, by omega⟩, _, _, rfl, rfl, .inl ⟨_, rfl, _, _, rfl, rfl, (by show (26 : Int) ≠ 0; decide), ?_⟩⟩
      refine ⟨_, _, ch, rfl, rfl, m0, by omega, (by rw [e26]; exact m1), hch, _, hD, (by rw [List.length_map, hl]; exact small1000 (by omega)), fill_same nD (fun b x nb e => si _ _ e), cs ++ [ch], by rw [upd_same, List.map_append]; rfl, by rw [List.length_append, hl]; rfl, fun c hc' => ?_⟩
      rcases List.mem_append.mp hc' with h | h
      · exact hc c h
      · cases List.mem_singleton.mp h
        exact lch
    rintro H9 ⟨s9, cs9, hD9, hl9, hc9⟩
    -- tails
    have F9 := F8.same s9
    refine ⟨_, rfl, m, rfl, by omega, by omega, fun D2 nD2 => ?_⟩
    refine lc_range (lo := 0) (n := (m : Int).toNat) (fun i Hi => Same H9 Hi ∧ ∃ ts : List Str, Hi D2 = some (.lst (ts.map V.str)) ∧ ts.length = i ∧ ∀ t ∈ ts, t.cps.toList.length ≤ z.cps.toList.length - (ka + 1) ∧ Low t) ⟨new_same nD2, [], upd_same, rfl, fun x hx => nomatch hx⟩ ?_ ?_
    · rintro i Hi hi ⟨si, ts, hD, hl, hc⟩
      obtain ⟨tt, ett⟩ := at_two (.int 8) (.int ((0 + (i : Int)).fmod 3)) sh c0 c1 ⟨_, rfl⟩ ⟨_, rfl⟩
      have e1 : ((ka : Int) + 1) = ((ka + 1 : Nat) : Int) := by omega
      have g1 := cut_from_len z (ka + 1)
      rw [← e1] at g1
      have g0 := cutl z (some ((ka : Int) + 1)) none
      have g2 := cutl (cutS z (some ((ka : Int) + 1)) none) none (some tt)
      refine ⟨rfl, .str z, rfl, .int ka, rfl, _, _, rfl, rfl, (ka : Int) + 1, rfl, z, rfl, zs, .int (0 + (i : Int)), rfl, .inl ⟨_, rfl, _, _, rfl, rfl, (by show (3 : Int) ≠ 0; decide), (by show 2 ≤ sizeLine; decide), fun p np => ?_⟩⟩
      have sp := new_same (o := .lst [.int 8, .int ((0 + (i : Int)).fmod 3)]) np
      refine ⟨_, rfl, p, _, _, _, rfl, rfl, .inl (.inl upd_same), ett, tt, rfl, _, rfl, len_le (k := 8) (by omega) (by decide), _, sp _ _ hD, (by rw [List.length_map, hl]; exact small1000 (by omega)), fill_same nD2 (fun b x nb e => sp _ _ (si _ _ e)), ts ++ [_], by rw [upd_same, List.map_append]; rfl, by rw [List.length_append, hl]; rfl, fun t ht => ?_⟩
      rcases List.mem_append.mp ht with h | h
      · exact hc t h
      · cases List.mem_singleton.mp h
        exact ⟨by omega, fun c hcc => zc c (cutm (cutm hcc))⟩
    rintro H10 ⟨s10, ts, hD10, hl10, hc10⟩
    -- the names
    refine ⟨_, rfl, m, rfl, by omega, by omega, fun D3 nD3 => ?_⟩
    refine lc_range (lo := 0) (n := (m : Int).toNat) (fun i Hi => Same H10 Hi ∧ ∃ ws : List Str, Hi D3 = some (.lst (ws.map V.str)) ∧ ws.length = i ∧ ∀ t ∈ ws, wordB t = true) ⟨new_same nD3, [], upd_same, rfl, fun x hx => nomatch hx⟩ ?_ ?_
    · rintro i Hi hi ⟨si, ws, hD, hl, hc⟩
      have e0 : (0 : Int) + (i : Int) = (i : Int) := Int.zero_add _
      have i9 : i < cs9.length := by omega
      have i10 : i < ts.length := by omega
      have gs : (cs9.map fun c => V.str ⟨#[c]⟩)[i]? = some (.str ⟨#[cs9[i]]⟩) := by rw [List.getElem?_map, List.getElem?_eq_getElem i9]; rfl
      have gt : (ts.map V.str)[i]? = some (.str ts[i]) := by rw [List.getElem?_map, List.getElem?_eq_getElem i10]; rfl
      have lc := hc9 _ (List.getElem_mem i9)
      obtain ⟨lt1, lt2⟩ := hc10 _ (List.getElem_mem i10)
      have l1 := cut_to_len z ka
      have l1' := cutl z none (some (ka : Int))
      have o1 : (⟨#[cs9[i]]⟩ : Str).cps.toList = [cs9[i]] := rfl
      have L1 : (cutS z none (some (ka : Int)) ++ (⟨#[cs9[i]]⟩ : Str)).cps.toList.length = (cutS z none (some (ka : Int))).cps.toList.length + 1 := by rw [appl, List.length_append, o1]; rfl
      have L2 : ((cutS z none (some (ka : Int)) ++ (⟨#[cs9[i]]⟩ : Str)) ++ ts[i]).cps.toList.length = (cutS z none (some (ka : Int))).cps.toList.length + 1 + ts[i].cps.toList.length := by rw [appl, List.length_append, L1]
      have W : wordB ((cutS z none (some (ka : Int)) ++ (⟨#[cs9[i]]⟩ : Str)) ++ ts[i]) = true := by
        refine word_of (by omega) (by omega) fun c hcc => ?_
        rw [appl, appl] at hcc
        rcases List.mem_append.mp hcc with h | h
        · rcases List.mem_append.mp h with h | h
          · exact zc c (cutm h)
          · cases List.mem_singleton.mp h
            exact lc
        · exact lt2 c h
      have ln : ∀ a b : Str, a.cps.toList.length + b.cps.toList.length ≤ 1000 → a.length + b.length ≤ sizeLine := fun a b h => Nat.le_of_lt (small1000 h)
      have n1 := ln (cutS z none (some (ka : Int))) ⟨#[cs9[i]]⟩ (by rw [o1]; show _ + 1 ≤ 1000; omega)
      have n2 := ln (cutS z none (some (ka : Int)) ++ (⟨#[cs9[i]]⟩ : Str)) ts[i] (by omega)
      refine ⟨rfl, .str z, rfl, .int ka, rfl, (ka : Int), rfl, z, rfl, zs, .ref D, rfl, .int (0 + (i : Int)), rfl, D, _, _, _, rfl, rfl, .inl (.inl (si _ _ (s10 _ _ hD9))), (by rw [e0]; exact atI_nat gs), _, _, rfl, rfl, n1,
        .ref D2, rfl, .int (0 + (i : Int)), rfl, D2, _, _, _, rfl, rfl, .inl (.inl (si _ _ hD10)), (by rw [e0]; exact atI_nat gt), _, _, rfl, rfl, n2, _, hD, (by rw [List.length_map, hl]; exact small1000 (by omega)), fill_same nD3 (fun b x nb e => si _ _ e), ws ++ [_], by rw [upd_same, List.map_append]; rfl, by rw [List.length_append, hl]; rfl, fun t ht => ?_⟩
      rcases List.mem_append.mp ht with h | h
      · exact hc t h
      · cases List.mem_singleton.mp h
        exact W
    rintro H11 ⟨s11, ws, hD11, hl11, hc11⟩
    have s811 := (s9.trans s10).trans s11
    have F10 := F9.same s10
    have KS : ∀ {A B : Hp}, Same A B → Keep d A B := fun s b o _ e => s b o e
    exact q D3 ws H11 n8 hD11 (by omega) hc11 ((K08.trans (KS (s9.trans s10))).free (F10.nd nD3) nD3) n58 (F10.same s11) (K08.trans (KS s811))
/-! ### the law's own columns -/
def colD (c : Col) : PyData := .tuple [oD c.root, .int c.foot, oD c.cap, .list (c.beds.map bedD)]
theorem dv_col {X : Addr → Prop} {H : Hp} {a l : Addr} {xs : List V} {c : Col} (na : ¬ X a) (ha : H a = some (.tup [oV c.root, .int c.foot, oV c.cap, .ref l])) (nl : ¬ X l) (hl : H l = some (.lst xs)) (S : DVs X H xs (c.beds.map bedD)) : DV X H (.ref a) (colD c) :=
  .tup na ha (.cons (dv_o _) (.cons (.int _) (.cons (dv_o _) (.cons (.lst nl hl S) .nil))))
theorem col_inv {X : Addr → Prop} {H : Hp} {v : V} {c : Col} (h : DV X H v (colD c)) : ∃ a l xs, v = .ref a ∧ ¬ X a ∧ H a = some (.tup [oV c.root, .int c.foot, oV c.cap, .ref l]) ∧ ¬ X l ∧ H l = some (.lst xs) ∧ DVs X H xs (c.beds.map bedD) := by
  cases h with
  | tup na ha r =>
    cases r with
    | cons h1 r =>
      cases r with
      | cons h2 r =>
        cases r with
        | cons h3 r =>
          cases r with
          | cons h4 r =>
            cases r
            cases h2
            cases h4 with
            | lst nl hl S =>
              have e1 := o_inv h1
              have e3 := o_inv h3
              subst e1
              subst e3
              exact ⟨_, _, _, rfl, na, ha, nl, hl, S⟩
def spLevel : Sp := fun vs H Q _ => ∃ (d c : Addr) (ns : List Int) (n : Nat), vs = [.ref d] ∧ Feed H d c ns n ∧ n + 5 < 1000000000 ∧
  ∀ (i : Int) (H' : Hp) (n' : Nat), n' ≤ n + 5 → Feed H' d c ns n' → Keep d H H' → Q (.int i) H'
theorem scLevel : FnScope ["_law_feed_here", "_law_near_here", "_law_far"] ["_law_feed_here"] (defScope sLevel) := ⟨rfl, rfl, rfl, by decide +kernel, rfl, by decide +kernel, by decide +kernel⟩
theorem ok_level {f fD fP : Addr} {fd fdD fdP : FuncData} (F : Fun K "_law_level" "_law_level" sLevel f fd) (T : Txt mg) (D : DefAt K mg "_law_draw" sDraw ["_law_feed_here", "_law_many"] fD fdD) (DP : DefAt K mg "_law_pick" sPick ["_law_feed_here", "_law_options"] fP fdP) : FnOk P w K mg base CX0 3 f fd ["_law_feed_here"] spLevel := by
  have GD : FnOk P w K mg base CX0 1 fD fdD ["_law_feed_here", "_law_many"] spDraw := ok_draw D.F T
  have GPl : FnOk P w K mg base CX0 2 fP fdP ["_law_feed_here", "_law_options"] spPickL := ok_pickL DP.F T D
  refine F.ok scLevel (fun vs H Q E h => ?_) (fun cdv A outer s H vs Q E hr h => ?_)
  · obtain ⟨d, c, ns, n, rfl, _⟩ := h
    rfl
  · obtain ⟨d, c, ns, n, rfl, FD, hn, q⟩ := h
    have hu := hu_of hr
    have nd := scLevel.nd
    refine ⟨_, (pss_cons (ps_par (i := 1) (j := 2) (by rfl) nd rfl rfl (by decide) rfl rfl (pa_cons (pe_op op_sub (pe_call GD (hr.mono (by decide)) (by rfl) D.M D.F.kp D.B .nil pass0 (pa_cons (pv 0) (pa_cons pe_int pa_nil))) pe_int) (pa_cons (pe_op op_add (pe_op op_pow pe_int pe_int) (pe_call GD (hr.mono (by decide)) (by rfl) D.M D.F.kp D.B .nil pass0 (pa_cons (pv 0) (pa_cons (pe_op op_pow pe_int pe_int) pa_nil)))) pa_nil)) (by rfl))
    (pss_one (ps_ret (pe_call GPl (hr.mono (by decide)) (by rfl) DP.M DP.F.kp DP.B .nil pass0 (pa_cons (pv 0) (pa_cons (pe_lst (pa_cons (pv 1) (pa_cons (pv 1) (pa_cons (pv 1) (pa_cons (pv 1) (pa_cons (pv 1) (pa_cons (pv 1) (pa_cons (pe_op op_sub (pe_call GD (hr.mono (by decide)) (by rfl) D.M D.F.kp D.B .nil pass0 (pa_cons (pv 0) (pa_cons pe_int pa_nil))) pe_int) (pa_cons (pv 2) (pa_cons (pe_op op_sub pe_int (pv 2)) pa_nil)))))))))) pa_nil)))))), ?_⟩
    refine ⟨.ref d, rfl, d, c, ns, n, 19, rfl, FD, by omega, by decide, by decide, fun r H1 n1 _ _ hn1 F1 K1 => ⟨_, _, rfl, rfl, 10, 29, rfl, rfl, ⟨by decide, by decide, by decide⟩, ?_⟩⟩
    refine ⟨.ref d, rfl, 10, 6, rfl, rfl, ⟨by decide, by decide, by decide⟩, d, c, ns, n1, _, rfl, F1, by omega, by decide, by decide, fun r2 H2 n2 _ _ hn2 F2 K2 => ⟨_, _, rfl, rfl, _, _, rfl, ?_⟩⟩
    refine ⟨.ref d, rfl, _, rfl, _, rfl, _, rfl, _, rfl, _, rfl, _, rfl, .ref d, rfl, d, c, ns, n2, 200, rfl, F2, by omega, by decide, by decide, fun r3 H3 n3 _ _ hn3 F3 K3 => ⟨_, _, rfl, rfl, _, rfl, _, rfl, _, _, rfl, rfl, (by show 9 ≤ sizeLine; decide), fun p np => ?_⟩⟩
    obtain ⟨U4, r4, F4, k4, h4, n4⟩ := nu F3 np
    rw [r4]
    refine ⟨d, c, ns, n3, p, _, rfl, F4 _, by omega, h4 _, (by show 0 < 9; decide), (by show 9 < 1000000; decide), fun y H5 n5 hy hn5 F5 K5 => ?_⟩
    have hy' : ∃ z : Int, y = .int z := by
      simp only [List.mem_cons, List.not_mem_nil, or_false] at hy
      rcases hy with rfl | rfl | rfl | rfl | rfl | rfl | rfl | rfl | rfl <;> exact ⟨_, rfl⟩
    obtain ⟨z, rfl⟩ := hy'
    exact q z H5 n5 (by omega) F5 (K1.trans (K2.trans (K3.trans ((k4 _).trans K5))))
def spTopP : Sp := fun vs H Q _ => ∃ (v : V) (c : Col) (X : Addr → Prop), vs = [v] ∧ DV X H v (colD c) ∧ c.beds.length ≤ 900 ∧ ∀ H', Same H H' → Q (.int (topC c)) H'
theorem scTop : FnScope ["_law_column_here", "_law_bed"] ["_law_column_here"] (defScope sTop) := ⟨rfl, rfl, rfl, by decide +kernel, rfl, by decide +kernel, by decide +kernel⟩
theorem ok_topP {f : Addr} {fd : FuncData} (F : Fun K "_law_top" "_law_top" sTop f fd) (T : Txt mg) : FnOk P w K mg base CX0 1 f fd ["_law_column_here"] spTopP := by
  refine F.ok scTop (fun vs H Q E h => ?_) (fun cdv A outer s H vs Q E hr h => ?_)
  · obtain ⟨v, c, X, rfl, _⟩ := h
    rfl
  · obtain ⟨v, c, X, rfl, dv, hl, q⟩ := h
    obtain ⟨a, l, xs, rfl, _, ha, _, hb, S⟩ := col_inv dv
    have nd := scTop.nd
    have hlen := beds_len S
    refine ⟨_, (pss_one (ps_ret (pe_op op_add (pe_ix ix_tup (pv 0) pe_int (fun _ _ => rfl)) (pe_callB (cr_sum rfl) (by rfl) T.sum (by decide +kernel) (pa_cons (pe_lc (own := [("_law_bed", 1)]) (g := gName 1) (by rfl) nd (pi_list (pe_ix ix_tup (pv 0) pe_int (fun _ _ => rfl))) (blkOk_by (own := [("_law_bed", 1)]) (N := ["_law_column_here", "_law_bed"]) (sc := defScope sTop) (by decide +kernel)) (fun _ _ _ _ _ => (pg_name (i := 1) nd rfl (Or.inl rfl))) (fun _ _ _ _ _ => pts_nil) (fun _ _ _ _ _ => (pe_ix (show IxR _ (rIxT K) from ix_tup) (pv 1) pe_int (fun _ _ => rfl)))) pa_nil))))), ?_⟩
    refine ⟨_, rfl, a, _, 1, _, rfl, rfl, .inl (.inl ha), rfl, _, rfl, a, _, 3, _, rfl, rfl, .inl (.inl ha), rfl, l, rfl, ⟨_, .inl (.inl hb)⟩, fun D nD => ?_⟩
    refine lc_list (K := K) (a := l) (xs := xs) (fun i Hi => Hi D = some (.lst (((c.beds.take i).map (·.th)).map V.int)) ∧ ∀ x y, x ≠ D → H x = some y → Hi x = some y) ⟨upd_same, fun x y nx e => by rw [upd_ne nx]; exact e⟩ (fun i Hi _ ⟨_, k⟩ => .inl (.inl (k _ _ (ne_of_none hb nD) hb))) ?_ ?_
    · rintro i x Hi hx ⟨hD, k⟩
      obtain ⟨bd, ab, hbd, rfl, _, hab⟩ := beds_get S hx
      have hi : i < c.beds.length := (List.getElem?_eq_some_iff.mp hbd).1
      refine ⟨rfl, _, rfl, ab, bedV bd, 1, .int bd.th, rfl, rfl, .inl (.inl (k _ _ (ne_of_none hab nD) hab)), rfl, _, hD, (by rw [List.length_map, List.length_map, List.length_take]; exact small1000 (by omega)), ?_, fun x y nx e => by rw [upd_ne nx]; exact k x y nx e⟩
      rw [upd_same, List.take_add_one, hbd, List.map_append, List.map_append]
      rfl
    rintro H2 ⟨hD, k⟩
    rw [hlen, List.take_length] at hD
    refine ⟨D, _, rfl, .inl (.inl hD), _, _, rfl, rfl, ?_⟩
    rw [sum_th]
    exact q H2 fun x y e => k x y (ne_of_none e nD) e
/-! ### data compared -/
mutual
theorem DV.dp {X : Addr → Prop} {K : PySem.W.Frag} {H : Hp} : ∀ {v : V} {x : PyData}, DV X H v x → x.hasDict = false → Dp K H v x
  | _, _, .non, _ => .non
  | _, _, .bl b, _ => .bl b
  | _, _, .int i, _ => .int i
  | _, _, .str x, _ => .str x
  | _, _, .lst _ h r, n => .lst (.inl (.inl h)) (DVs.dp r (by simpa only [PyData.hasDict] using n))
  | _, _, .tup _ h r, n => .tup (.inl (.inl h)) (DVs.dp r (by simpa only [PyData.hasDict] using n))
  | _, _, .dic _ _ _, n => by simp only [PyData.hasDict, Bool.true_eq_false] at n
theorem DVs.dp {X : Addr → Prop} {K : PySem.W.Frag} {H : Hp} : ∀ {v : List V} {x : List PyData}, DVs X H v x → PyData.hasDictAll x = false → DpAll K H v x
  | _, _, .nil, _ => .nil
  | _, _, .cons h r, n => by
    simp only [PyData.hasDictAll, Bool.or_eq_false_iff] at n
    exact .cons (DV.dp h n.1) (DVs.dp r n.2)
end
theorem str_ok {z : Str} (h : ∀ c ∈ z.cps.toList, c < 1114112) : PyData.strOk z = true := by
  simp only [PyData.strOk]
  rw [← Array.all_toList, List.all_eq_true]
  exact fun c hc => decide_eq_true (h c hc)
theorem o_lay (o : Option Str) (h : okO o) : (oD o).canLay0 = true ∧ (oD o).depth = 0 ∧ (oD o).hasDict = false := by
  cases o with
  | none => exact ⟨by simp only [oD, PyData.canLay0], by simp only [oD, PyData.depth], by simp only [oD, PyData.hasDict]⟩
  | some z =>
    refine ⟨?_, by simp only [oD, PyData.depth], by simp only [oD, PyData.hasDict]⟩
    simp only [oD, PyData.canLay0]
    exact str_ok (word_sm (h z rfl)).2
theorem bed_lay {b : Bed} (G : GoodB b) : (bedD b).canLay0 = true ∧ (bedD b).depth = 1 ∧ (bedD b).hasDict = false := by
  obtain ⟨h1, h2, h3⟩ := o_lay b.mark G.mark
  have hs := str_ok (word_sm G.rock).2
  refine ⟨?_, ?_, ?_⟩
  · simp only [bedD, PyData.canLay0, PyData.canLayAll0, h1, hs, Bool.and_true]
  · simp only [bedD, PyData.depth, PyData.depthAll, h2]; decide
  · simp only [bedD, PyData.hasDict, PyData.hasDictAll, h3, Bool.or_false]
theorem beds_lay : ∀ {bs : List Bed}, (∀ b ∈ bs, GoodB b) → PyData.canLayAll0 (bs.map bedD) = true ∧ PyData.depthAll (bs.map bedD) ≤ 1 ∧ PyData.hasDictAll (bs.map bedD) = false
  | [], _ => ⟨by simp only [List.map_nil, PyData.canLayAll0], by simp only [List.map_nil, PyData.depthAll]; omega, by simp only [List.map_nil, PyData.hasDictAll]⟩
  | b :: r, h => by
    obtain ⟨h1, h2, h3⟩ := bed_lay (h b (List.mem_cons_self ..))
    obtain ⟨h4, h5, h6⟩ := beds_lay (bs := r) fun x hx => h x (List.mem_cons_of_mem _ hx)
    refine ⟨?_, ?_, ?_⟩
    · simp only [List.map_cons, PyData.canLayAll0, h1, h4, Bool.and_true]
    · simp only [List.map_cons, PyData.depthAll, h2]; omega
    · simp only [List.map_cons, PyData.hasDictAll, h3, h6, Bool.or_false]
theorem shaped_beds {bs : List Bed} (h : ∀ b ∈ bs, GoodB b) : SeqAt.shaped (.list (bs.map bedD)) = true ∧ (PyData.list (bs.map bedD)).hasDict = false := by
  obtain ⟨h1, h2, h3⟩ := beds_lay h
  refine ⟨?_, by simp only [PyData.hasDict, h3]⟩
  simp only [SeqAt.shaped, PyData.canLay0, PyData.depth, h1, Bool.true_and]
  exact decide_eq_true (by omega)
theorem shaped_col {c : Col} (G : GoodC c) : SeqAt.shaped (colD c) = true ∧ (colD c).hasDict = false := by
  obtain ⟨h1, h2, h3⟩ := beds_lay G.beds.all
  obtain ⟨r1, r2, r3⟩ := o_lay c.root G.root
  obtain ⟨s1, s2, s3⟩ := o_lay c.cap G.cap
  refine ⟨?_, by simp only [colD, PyData.hasDict, PyData.hasDictAll, h3, r3, s3, Bool.or_false]⟩
  simp only [SeqAt.shaped, colD, PyData.canLay0, PyData.canLayAll0, PyData.depth, PyData.depthAll, h1, r1, r2, s1, s2, Bool.true_and, Bool.and_true]
  exact decide_eq_true (by omega)
/-! ### laid, by the law -/
theorem new_not {X : Addr → Prop} {H : Hp} (hX : ∀ z, X z → Old H z) {p : Addr} (np : H p = none) : ¬ X p := fun z => hX p z np
theorem cut_init (xs : List V) : cutV xs none (some (-1)) = xs.dropLast := by
  unfold cutV
  rw [HT.sIx_none]
  have e : HT.sIx xs.length xs.length (some (-1)) = xs.length - 1 := by
    show (if (-1 : Int) < 0 then ((-1 : Int) + (xs.length : Int)).toNat else min (-1 : Int).toNat xs.length) = _
    rw [if_pos (by decide)]
    omega
  rw [e, List.drop_zero, List.dropLast_eq_take, Nat.sub_zero]
theorem last_bed {X : Addr → Prop} {H : Hp} {xs : List V} {bs : List Bed} (S : DVs X H xs (bs.map bedD)) {bl : Bed} (hx : bs.getLast? = some bl) : ∃ ab, xs.getLast? = some (.ref ab) ∧ ¬ X ab ∧ H ab = some (.tup (bedV bl)) ∧ atI xs (-1) = some (.ref ab) ∧ DVs X H xs.dropLast (bs.dropLast.map bedD) := by
  have hlen := beds_len S
  have es := last_split hx
  have hn : 0 < bs.length := by rw [es, List.length_append]; show 0 < _ + 1; omega
  have hxs : xs ≠ [] := fun z => by rw [z] at hlen; simp at hlen; omega
  obtain ⟨v, hv⟩ : ∃ v, xs.getLast? = some v := ⟨_, List.getLast?_eq_getLast hxs⟩
  have ev := last_split hv
  have hiv : xs[xs.length - 1]? = some v := by rw [← List.getLast?_eq_getElem?]; exact hv
  obtain ⟨bd, ab, hbd, rfl, nx, hab⟩ := beds_get S hiv
  have ebd : bd = bl := by
    rw [hlen, ← List.getLast?_eq_getElem?, hx] at hbd
    exact (Option.some.inj hbd).symm
  subst ebd
  refine ⟨ab, hv, nx, hab, by rw [ev]; exact atI_last _ _, ?_⟩
  have S' := S
  rw [ev, es, List.map_append] at S'
  exact dvs_init rfl S'
def spLaidP : Sp := fun vs H Q _ => ∃ (v : V) (c : Col) (X : Addr → Prop) (rock : Str) (lv : Int), vs = [v, .str rock, .int lv] ∧ DV X H v (colD c) ∧ GoodC c ∧ c.beds.length ≤ 900 ∧ wordB rock = true ∧ (∀ z, X z → Old H z) ∧
  ∀ H' v', DV X H' v' (colD (layC c rock lv)) → Same H H' → Q v' H'
theorem scLaid : FnScope ["_law_column_here", "_law_rock", "_law_level_here", "_law_base", "_law_foot", "_law_seal", "_law_beds", "_law_more"] ["_law_column_here", "_law_rock", "_law_level_here"] (defScope sLaid) := ⟨rfl, rfl, rfl, by decide +kernel, rfl, by decide +kernel, by decide +kernel⟩
set_option maxHeartbeats 1000000 in
theorem ok_laidP {f fT : Addr} {fd fdT : FuncData} (F : Fun K "_law_laid" "_law_laid" sLaid f fd) (T : Txt mg) (DTP : DefAt K mg "_law_top" sTop ["_law_column_here"] fT fdT) : FnOk P w K mg base CX0 2 f fd ["_law_column_here", "_law_rock", "_law_level_here"] spLaidP := by
  have GTP : FnOk P w K mg base CX0 1 fT fdT ["_law_column_here"] spTopP := ok_topP DTP.F T
  refine F.ok scLaid (fun vs H Q E h => ?_) (fun cdv A outer s H vs Q E hr h => ?_)
  · obtain ⟨v, c, X, rock, lv, rfl, _⟩ := h
    rfl
  · obtain ⟨v, c, X, rock, lv, rfl, dv, G, hl, hw, hX, q⟩ := h
    have nd := scLaid.nd
    obtain ⟨a, l, xs, rfl, na, ha, nl, hb, S⟩ := col_inv dv
    refine ⟨_, (pss_cons (ps_asg (pv 0) (pg_tup rfl (pgs_cons (pg_name (i := 3) nd rfl (.inl rfl)) (pgs_cons (pg_name (i := 4) nd rfl (.inl rfl)) (pgs_cons (pg_name (i := 5) nd rfl (.inl rfl)) (pgs_cons (pg_name (i := 6) nd rfl (.inl rfl)) pgs_nil))))))
    (pss_cons (ps_set (i := 7) nd rfl (.inl rfl) (pe_op op_sub (pv 2) (pe_call GTP (hr.mono (by decide)) (by rfl) DTP.M DTP.F.kp DTP.B .nil pass0 (pa_cons (pv 0) pa_nil))))
    (pss_cons (ps_if (pt_cmpR op_le (pv 7) pe_int (nomark _))
      (pss_one (ps_ret (pv 0)))
      pss_nil)
    (C8.pss_cut (ps_if (PW.pt (pw_and (pt_cmpR (op_neD hr.units) (pv 6) (pe_lst pa_nil) (nomark _)) (pw_and (pt_cmpR op_eq (pe_ix ix_tup (pe_ix ix_list (pv 6) (pe_un un_neg pe_int) (fun _ _ => rfl)) pe_int (fun _ _ => rfl)) (pv 1) (nomark _)) (pw_and1 (pt_cmpR op_isN (pe_ix ix_tup (pe_ix ix_list (pv 6) (pe_un un_neg pe_int) (fun _ _ => rfl)) pe_int (fun _ _ => rfl)) pe_non (nomark _))))))
      (pss_one (ps_ret (pe_tup (pa_cons (pv 3) (pa_cons (pv 4) (pa_cons (pv 5) (pa_cons (pe_op op_cat (pe_slice sl_list (pv 6) po_none (po_some (pe_un un_neg pe_int))) (pe_lst (pa_cons (pe_tup (pa_cons (pv 1) (pa_cons (pe_op op_add (pe_ix ix_tup (pe_ix ix_list (pv 6) (pe_un un_neg pe_int) (fun _ _ => rfl)) pe_int (fun _ _ => rfl)) (pv 7)) (pa_cons pe_non pa_nil)))) pa_nil))) pa_nil)))))))
      pss_nil)
    (pss_one (ps_ret (pe_tup (pa_cons (pv 3) (pa_cons (pv 4) (pa_cons (pv 5) (pa_cons (pe_op op_cat (pv 6) (pe_lst (pa_cons (pe_tup (pa_cons (pv 1) (pa_cons (pv 7) (pa_cons pe_non pa_nil)))) pa_nil))) pa_nil))))))))))), ?_⟩
    refine ⟨_, rfl, a, _, rfl, .inl (.inl ha), rfl, _, _, rfl, _, _, rfl, _, _, rfl, _, _, rfl, rfl, ?_⟩
    refine ⟨_, rfl, _, rfl, _, c, X, rfl, dv, hl, fun H1 s1 => ⟨_, _, rfl, rfl, ?_⟩⟩
    have kX : ∀ {A B : Hp}, Same A B → ∀ b o, ¬ X b → A b = some o → B b = some o ∧ ¬ X b := fun s b o nb e => ⟨s _ _ e, nb⟩
    refine ⟨_, rfl, _, _, rfl, rfl, _, rfl, ite2 (fun hm => ?_) (fun hm => ?_)⟩
    · have hm' : lv - topC c ≤ 0 := of_decide_eq_true hm
      have eC : layC c rock lv = c := if_neg (by omega)
      exact ⟨_, rfl, q H1 _ (eC.symm ▸ dv.keep (kX s1)) s1⟩
    have hm' : 0 < lv - topC c := by have : ¬ lv - topC c ≤ 0 := fun z => hm (decide_eq_true z); omega
    have eC : layC c rock lv = wB c (layB c.beds rock (lv - topC c)) := if_pos hm'
    obtain ⟨sh1, sh2⟩ := shaped_beds G.beds.all
    have hb1 := s1 _ _ hb
    have S1 := S.keep (kX s1)
    have done : ∀ (H2 : Hp), Same H1 H2 → ∀ (t l2 p : Addr) (ys : List V) (bs' : List Bed) (H3 : Hp), layB c.beds rock (lv - topC c) = bs' → ¬ X l2 → H3 l2 = some (.lst ys) → DVs X H3 ys (bs'.map bedD) → Same H1 H3 → H3 p = none →
        Q (.ref p) (upd H3 p (.tup [oV c.root, .int c.foot, oV c.cap, .ref l2])) := by
      intro H2 s2 t l2 p ys bs' H3 eB nl2 hl2 S3 s3 np
      have sp := new_same (o := .tup [oV c.root, .int c.foot, oV c.cap, .ref l2]) np
      refine q _ _ ?_ ((s1.trans s3).trans sp)
      rw [eC, eB]
      refine dv_col (c := wB c bs') (fun z => ?_) upd_same nl2 (sp _ _ hl2) (S3.keep (kX sp))
      exact same_old (s1.trans s3) (hX _ z) np
    refine ⟨fun σ H2 => σ = [some (.ref a), some (.str rock), some (.int lv), some (oV c.root), some (.int c.foot), some (oV c.cap), some (.ref l), some (.int (lv - topC c))] ∧ Same H1 H2 ∧ layB c.beds rock (lv - topC c) = c.beds ++ [⟨rock, lv - topC c, none⟩], ?_, ?_⟩
    · -- the test
      refine ⟨_, rfl, Nat.zero_le _, fun p np => ?_⟩
      have sp := new_same (o := .lst []) np
      have hb2 := sp _ _ hb1
      have hp2 : (upd H1 p (.lst [])) p = some (.lst []) := upd_same
      have S2 := S1.keep (kX sp)
      generalize upd H1 p (.lst []) = H2 at sp hb2 hp2 S2 ⊢
      refine ⟨.list (c.beds.map bedD), .list [], DV.dp (.lst (X := X) nl hb2 S2) sh2, .lst (.inl (.inl hp2)) .nil, sh1, rfl, _, rfl, ?_⟩
      cases hx : c.beds.getLast? with
      | none =>
        have e0 : c.beds = [] := List.getLast?_eq_none_iff.mp hx
        rw [e0]
        refine iteF ⟨rfl, sp, ?_⟩
        rfl
      | some bl =>
        obtain ⟨ab, hv, nab, hab, hat, SD⟩ := last_bed S2 hx
        have ne : (!PyData.eqv (.list (c.beds.map bedD)) (.list [])) = true := by
          cases hbs : c.beds with
          | nil => rw [hbs] at hx; cases hx
          | cons b r => rfl
        rw [ne]
        have eL : layB c.beds rock (lv - topC c) = if bl.rock = rock ∧ bl.mark = none then c.beds.dropLast ++ [⟨rock, bl.th + (lv - topC c), none⟩] else c.beds ++ [⟨rock, lv - topC c, none⟩] := by
          unfold layB
          rw [hx]
        refine iteT ⟨_, rfl, 1, rfl, l, xs, -1, _, rfl, rfl, .inl (.inl hb2), hat, ab, bedV bl, 0, _, rfl, rfl, .inl (.inl hab), rfl, _, rfl, rfl, _, rfl, ite2 (fun h1 => ?_) (fun h1 => ?_)⟩
        · have e1 : bl.rock = rock := V.str.inj (of_decide_eq_true h1)
          refine ⟨_, rfl, 1, rfl, l, xs, -1, _, rfl, rfl, .inl (.inl hb2), hat, ab, bedV bl, 2, _, rfl, rfl, .inl (.inl hab), rfl, rfl, _, rfl, ite2 (fun h2 => ?_) (fun h2 => ?_)⟩
          · have e2 : bl.mark = none := by
              have := of_decide_eq_true h2
              cases hm : bl.mark with
              | none => rfl
              | some z => rw [hm] at this; cases this
            rw [if_pos ⟨e1, e2⟩] at eL
            -- (base, foot, cap, beds[:-1] + [(rock, beds[-1][1] + more, None)])
            refine ⟨_, rfl, _, rfl, _, rfl, _, rfl, 1, rfl, (-1 : Int), rfl, l, xs, rfl, .inl (.inl hb2), fun p3 np3 => ?_⟩
            rw [cut_init]
            have s3 := new_same (o := .lst xs.dropLast) np3
            have h3 : (upd H2 p3 (.lst xs.dropLast)) p3 = some (.lst xs.dropLast) := upd_same
            have hb3 := s3 _ _ hb2
            have hab3 := s3 _ _ hab
            have SD3 := SD.keep (kX s3)
            generalize upd H2 p3 (.lst xs.dropLast) = H3 at s3 h3 hb3 hab3 SD3 ⊢
            refine ⟨_, rfl, _, rfl, 1, rfl, l, xs, -1, _, rfl, rfl, .inl (.inl hb3), hat, ab, bedV bl, 1, .int bl.th, rfl, rfl, .inl (.inl hab3), rfl, _, rfl, _, _, rfl, rfl, (by show 3 ≤ sizeLine; decide), fun t nt => ?_⟩
            have s4 := new_same (o := .tup [.str rock, .int (bl.th + (lv - topC c)), .non]) nt
            have h4 : (upd H3 t (.tup [.str rock, .int (bl.th + (lv - topC c)), .non])) t = some (.tup [.str rock, .int (bl.th + (lv - topC c)), .non]) := upd_same
            have h34 := s4 _ _ h3
            have SD4 := SD3.keep (kX s4)
            have oldX : ∀ {B : Hp}, Same H1 B → ∀ z, X z → Old B z := fun s z hz => same_old (s1.trans s) (hX z hz)
            have nxt : ¬ X t := new_not (oldX (sp.trans s3)) nt
            generalize upd H3 t (.tup [.str rock, .int (bl.th + (lv - topC c)), .non]) = H4 at s4 h4 h34 SD4 ⊢
            refine ⟨(by show 1 ≤ sizeLine; decide), fun p5 np5 => ?_⟩
            have s5 := new_same (o := .lst [.ref t]) np5
            have h5 : (upd H4 p5 (.lst [.ref t])) p5 = some (.lst [.ref t]) := upd_same
            have h35 := s5 _ _ h34
            have h45 := s5 _ _ h4
            have SD5 := SD4.keep (kX s5)
            generalize upd H4 p5 (.lst [.ref t]) = H5 at s5 h5 h35 h45 SD5 ⊢
            have hlen := beds_len S
            refine ⟨p3, p5, _, _, rfl, rfl, h35, h5, (by rw [List.length_dropLast]; exact Nat.le_of_lt (small1000 (by show _ + 1 ≤ 1000; omega))), fun p6 np6 => ?_⟩
            have s6 := new_same (o := .lst (xs.dropLast ++ [.ref t])) np6
            have h6 : (upd H5 p6 (.lst (xs.dropLast ++ [.ref t]))) p6 = some (.lst (xs.dropLast ++ [.ref t])) := upd_same
            have h46 := s6 _ _ h45
            have SD6 := SD5.keep (kX s6)
            have s16 := (((sp.trans s3).trans s4).trans s5)
            have nx6 : ¬ X p6 := new_not (oldX s16) np6
            generalize upd H5 p6 (.lst (xs.dropLast ++ [.ref t])) = H6 at s6 h6 h46 SD6 ⊢
            refine ⟨(by show 4 ≤ sizeLine; decide), fun p7 np7 => ?_⟩
            refine done H2 sp t p6 p7 _ _ H6 eL nx6 h6 ?_ (s16.trans s6) np7
            rw [List.map_append]
            exact SD6.append (.cons (dv_bed (b := ⟨rock, bl.th + (lv - topC c), none⟩) nxt h46) .nil)
          · refine ⟨rfl, sp, ?_⟩
            rw [eL, if_neg]
            rintro ⟨_, e⟩
            exact h2 (decide_eq_true (by rw [e]; rfl))
        · refine ⟨rfl, sp, ?_⟩
          rw [eL, if_neg]
          rintro ⟨e, _⟩
          exact h1 (decide_eq_true (by rw [e]))
    · rintro σ H2 ⟨rfl, sp, eL⟩
      have hb2 := sp _ _ hb1
      have S2 := S1.keep (kX sp)
      have oldX : ∀ {B : Hp}, Same H1 B → ∀ z, X z → Old B z := fun s z hz => same_old (s1.trans s) (hX z hz)
      refine ⟨_, rfl, _, rfl, _, rfl, _, rfl, _, rfl, _, rfl, (by show 3 ≤ sizeLine; decide), fun t nt => ?_⟩
      have s4 := new_same (o := .tup [.str rock, .int (lv - topC c), .non]) nt
      have h4 : (upd H2 t (.tup [.str rock, .int (lv - topC c), .non])) t = some (.tup [.str rock, .int (lv - topC c), .non]) := upd_same
      have hb4 := s4 _ _ hb2
      have S4 := S2.keep (kX s4)
      have nxt : ¬ X t := new_not (oldX sp) nt
      generalize upd H2 t (.tup [.str rock, .int (lv - topC c), .non]) = H4 at s4 h4 hb4 S4 ⊢
      refine ⟨(by show 1 ≤ sizeLine; decide), fun p5 np5 => ?_⟩
      have s5 := new_same (o := .lst [.ref t]) np5
      have h5 : (upd H4 p5 (.lst [.ref t])) p5 = some (.lst [.ref t]) := upd_same
      have hb5 := s5 _ _ hb4
      have h45 := s5 _ _ h4
      have S5 := S4.keep (kX s5)
      generalize upd H4 p5 (.lst [.ref t]) = H5 at s5 h5 hb5 h45 S5 ⊢
      have hlen := beds_len S
      refine ⟨l, p5, _, _, rfl, rfl, hb5, h5, Nat.le_of_lt (small1000 (by show _ + 1 ≤ 1000; omega)), fun p6 np6 => ?_⟩
      have s6 := new_same (o := .lst (xs ++ [.ref t])) np6
      have h6 : (upd H5 p6 (.lst (xs ++ [.ref t]))) p6 = some (.lst (xs ++ [.ref t])) := upd_same
      have h46 := s6 _ _ h45
      have S6 := S5.keep (kX s6)
      have s16 := (sp.trans s4).trans s5
      have nx6 : ¬ X p6 := new_not (oldX s16) np6
      generalize upd H5 p6 (.lst (xs ++ [.ref t])) = H6 at s6 h6 h46 S6 ⊢
      refine ⟨(by show 4 ≤ sizeLine; decide), fun p7 np7 => ?_⟩
      refine done H2 sp t p6 p7 _ _ H6 eL nx6 h6 ?_ (s16.trans s6) np7
      rw [List.map_append]
      exact S6.append (.cons (dv_bed (b := ⟨rock, lv - topC c, none⟩) nxt h46) .nil)
/-! ### cut off, by the law -/
def spCutP : Sp := fun vs H Q _ => ∃ (v : V) (c : Col) (X : Addr → Prop) (name : Str) (lv : Int), vs = [v, .str name, .int lv] ∧ DV X H v (colD c) ∧ GoodC c ∧ c.beds.length ≤ 900 ∧ wordB name = true ∧ (∀ z, X z → Old H z) ∧
  ∀ H' v', DV X H' v' (colD (cutC c name lv)) → Same H H' → Q v' H'
theorem scCutP : FnScope ["_law_column_here", "_law_name", "_law_level_here", "_law_base", "_law_foot", "_law_seal", "_law_beds", "_law_left", "_law_height", "_law_rock", "_law_thick", "_law_sign"] ["_law_column_here", "_law_name", "_law_level_here"] (defScope sCutOff) := ⟨rfl, rfl, rfl, by decide +kernel, rfl, by decide +kernel, by decide +kernel⟩
set_option maxHeartbeats 1000000 in
theorem ok_cutP {f fT : Addr} {fd fdT : FuncData} (F : Fun K "_law_cut_off" "_law_cut_off" sCutOff f fd) (T : Txt mg) (DTP : DefAt K mg "_law_top" sTop ["_law_column_here"] fT fdT) : FnOk P w K mg base CX0 2 f fd ["_law_column_here", "_law_name", "_law_level_here"] spCutP := by
  have GTP : FnOk P w K mg base CX0 1 fT fdT ["_law_column_here"] spTopP := ok_topP DTP.F T
  refine F.ok scCutP (fun vs H Q E h => ?_) (fun cdv A outer s H vs Q E hr h => ?_)
  · obtain ⟨v, c, X, name, lv, rfl, _⟩ := h
    rfl
  · obtain ⟨v, c, X, name, lv, rfl, dv, G, hl, hw, hX, q⟩ := h
    have nd := scCutP.nd
    obtain ⟨a, l, xs, rfl, na, ha, nl, hb, S⟩ := col_inv dv
    have hlen := beds_len S
    refine ⟨_, (pss_cons (ps_asg (pv 0) (pg_tup rfl (pgs_cons (pg_name (i := 3) nd rfl (.inl rfl)) (pgs_cons (pg_name (i := 4) nd rfl (.inl rfl)) (pgs_cons (pg_name (i := 5) nd rfl (.inl rfl)) (pgs_cons (pg_name (i := 6) nd rfl (.inl rfl)) pgs_nil))))))
    (pss_cons (ps_if (pt_cmpR op_lt (pe_call GTP (hr.mono (by decide)) (by rfl) DTP.M DTP.F.kp DTP.B .nil pass0 (pa_cons (pv 0) pa_nil)) (pv 2) (nomark _))
      (pss_one (ps_ret (pv 0)))
      pss_nil)
    (pss_cons (ps_if (pt_cmpR op_le (pv 2) (pv 4) (nomark _))
      (pss_one (ps_ret (pe_tup (pa_cons (pv 3) (pa_cons (pv 2) (pa_cons (pv 1) (pa_cons (pe_lst pa_nil) pa_nil)))))))
      pss_nil)
    (pss_cons (ps_par (i := 7) (j := 8) (by rfl) nd rfl rfl (by decide) rfl rfl (pa_cons (pe_lst pa_nil) (pa_cons (pv 4) pa_nil)) (by rfl))
    (pss_cons (ps_for PassesOwn.never rfl (pi_list (pv 6)) (pg_tup rfl (pgs_cons (pg_name (i := 9) nd rfl (.inl rfl)) (pgs_cons (pg_name (i := 10) nd rfl (.inl rfl)) (pgs_cons (pg_name (i := 11) nd rfl (.inl rfl)) pgs_nil))))
      (C8.pss_cut (ps_if (pt_cmpR op_lt (pe_op op_add (pv 8) (pv 10)) (pv 2) (nomark _))
      (pss_one (ps_expr (pe_bm PySem.F.plainAttrs_list PySem.F.slot_list_append PySem.F.type_list_append mt_append (pv 7) (pa_cons (pe_tup (pa_cons (pv 9) (pa_cons (pv 10) (pa_cons (pv 11) pa_nil)))) pa_nil))))
      (pss_one (ps_if (pt_cmpR op_lt (pv 8) (pv 2) (nomark _))
      (pss_one (ps_expr (pe_bm PySem.F.plainAttrs_list PySem.F.slot_list_append PySem.F.type_list_append mt_append (pv 7) (pa_cons (pe_tup (pa_cons (pv 9) (pa_cons (pe_op op_sub (pv 2) (pv 8)) (pa_cons (pv 1) pa_nil)))) pa_nil))))
      pss_nil)))
    (pss_one (ps_set (i := 8) nd rfl (.inl rfl) (pe_op op_add (pv 8) (pv 10))))))
    (pss_one (ps_ret (pe_tup (pa_cons (pv 3) (pa_cons (pv 4) (pa_cons (pv 5) (pa_cons (pv 7) pa_nil)))))))))))), ?_⟩
    refine ⟨_, rfl, a, _, rfl, .inl (.inl ha), rfl, _, _, rfl, _, _, rfl, _, _, rfl, _, _, rfl, rfl, ?_⟩
    have kX : ∀ {A B : Hp}, Same A B → ∀ b o, ¬ X b → A b = some o → B b = some o ∧ ¬ X b := fun s b o nb e => ⟨s _ _ e, nb⟩
    refine ⟨_, rfl, _, c, X, rfl, dv, hl, fun H1 s1 => ⟨_, rfl, _, _, rfl, rfl, _, rfl, ite2 (fun h1 => ?_) (fun h1 => ?_)⟩⟩
    · have h1' : topC c < lv := of_decide_eq_true h1
      have eC : cutC c name lv = c := if_pos h1'
      exact ⟨_, rfl, q H1 _ (eC.symm ▸ dv.keep (kX s1)) s1⟩
    have h1' : ¬ topC c < lv := fun z => h1 (decide_eq_true z)
    have oldX : ∀ {B : Hp}, Same H B → ∀ z, X z → Old B z := fun s z hz => same_old s (hX z hz)
    refine ⟨_, rfl, _, rfl, _, _, rfl, rfl, _, rfl, ite2 (fun h2 => ?_) (fun h2 => ?_)⟩
    · have h2' : lv ≤ c.foot := of_decide_eq_true h2
      have eC : cutC c name lv = ⟨c.root, lv, some name, []⟩ := by unfold cutC; rw [if_neg h1', if_pos h2']
      refine ⟨_, rfl, _, rfl, _, rfl, Nat.zero_le _, fun p np => ?_⟩
      have sp := new_same (o := .lst []) np
      have hp : (upd H1 p (.lst [])) p = some (.lst []) := upd_same
      have nxp : ¬ X p := new_not (oldX s1) np
      generalize upd H1 p (.lst []) = H2 at sp hp ⊢
      refine ⟨(by show 4 ≤ sizeLine; decide), fun p2 np2 => ?_⟩
      have sp2 := new_same (o := .tup [oV c.root, .int lv, .str name, .ref p]) np2
      refine q _ _ ?_ ((s1.trans sp).trans sp2)
      rw [eC]
      exact dv_col (c := ⟨c.root, lv, some name, []⟩) (new_not (oldX (s1.trans sp)) np2) upd_same nxp (sp2 _ _ hp) .nil
    have h2' : c.foot < lv := by have : ¬ lv ≤ c.foot := fun z => h2 (decide_eq_true z); omega
    have eC : cutC c name lv = wB c (cutB name lv c.foot c.beds) := by unfold cutC; rw [if_neg h1', if_neg (by omega)]
    -- left, height = ([], foot)
    refine ⟨Nat.zero_le _, fun k nk => ⟨_, rfl, _, _, rfl, ?_⟩⟩
    have s2 := new_same (o := .lst []) nk
    have hk : (upd H1 k (.lst [])) k = some (.lst []) := upd_same
    have nxk : ¬ X k := new_not (oldX s1) nk
    have nk1 : ∀ z o, H1 z = some o → z ≠ k := fun z o e => ne_of_none e nk
    generalize upd H1 k (.lst []) = H2 at s2 hk ⊢
    have s02 := s1.trans s2
    refine ⟨_, rfl, l, rfl, ⟨_, .inl (.inl (s02 _ _ hb))⟩, ?_⟩
    refine for_list (K := K) (a := l) (xs := xs) (fun i σ Hi => ∃ (ys : List V) (hg : Int) (acc : List Bed) (y9 y10 y11 : Option V), σ = [some (.ref a), some (.str name), some (.int lv), some (oV c.root), some (.int c.foot), some (oV c.cap), some (.ref l), some (.ref k), some (.int hg), y9, y10, y11] ∧
        Hi k = some (.lst ys) ∧ ys.length ≤ i ∧ Same H1 Hi ∧ DVs (fun z => X z ∨ z = k) Hi ys (acc.map bedD) ∧
        ((hg < lv ∧ cutB name lv c.foot c.beds = acc ++ cutB name lv hg (c.beds.drop i)) ∨ (lv ≤ hg ∧ cutB name lv c.foot c.beds = acc)))
      ⟨[], c.foot, [], none, none, none, rfl, hk, Nat.zero_le _, s2, .nil, .inl ⟨h2', rfl⟩⟩ (fun i σ Hi _ ⟨_, _, _, _, _, _, _, _, _, si, _⟩ => .inl (.inl (si _ _ (s1 _ _ hb)))) ?_ ?_
    · rintro i x σ Hi hx ⟨ys, hg, acc, y9, y10, y11, rfl, hyk, hyl, si, Sy, hB⟩
      obtain ⟨bd, ab, hbd, rfl, _, hab⟩ := beds_get S hx
      have gb := G.beds.all _ (List.mem_of_getElem? hbd)
      have hth := gb.th
      have hi : i < c.beds.length := (List.getElem?_eq_some_iff.mp hbd).1
      have ed : c.beds.drop i = bd :: c.beds.drop (i + 1) := by
        rw [List.drop_eq_getElem_cons hi]
        rw [List.getElem?_eq_getElem hi] at hbd
        rw [Option.some.inj hbd]
      have hab' := si _ _ (s1 _ _ hab)
      refine ⟨ab, _, rfl, .inl (.inl hab'), rfl, _, _, rfl, _, _, rfl, _, _, rfl, rfl, ?_⟩
      -- if height + thick < level .. elif ..
      refine ⟨fun σ H' => ∃ (zs : List V) (acc' : List Bed), σ = [some (.ref a), some (.str name), some (.int lv), some (oV c.root), some (.int c.foot), some (oV c.cap), some (.ref l), some (.ref k), some (.int hg), some (.str bd.rock), some (.int bd.th), some (oV bd.mark)] ∧
        H' k = some (.lst zs) ∧ zs.length ≤ i + 1 ∧ Same H1 H' ∧ DVs (fun z => X z ∨ z = k) H' zs (acc'.map bedD) ∧
        ((hg + bd.th < lv ∧ cutB name lv c.foot c.beds = acc' ++ cutB name lv (hg + bd.th) (c.beds.drop (i + 1))) ∨ (lv ≤ hg + bd.th ∧ cutB name lv c.foot c.beds = acc')), ?_, ?_⟩
      · have app : ∀ (b' : Bed), (∀ t, Hi t = none → ∃ zs : List V, (upd (upd Hi t (.tup (bedV b'))) k (.lst (ys ++ [.ref t]))) k = some (.lst zs) ∧ zs.length ≤ i + 1 ∧ Same H1 (upd (upd Hi t (.tup (bedV b'))) k (.lst (ys ++ [.ref t]))) ∧
            DVs (fun z => X z ∨ z = k) (upd (upd Hi t (.tup (bedV b'))) k (.lst (ys ++ [.ref t]))) zs ((acc ++ [b']).map bedD)) := by
          intro b' t nt
          have st := new_same (o := .tup (bedV b')) nt
          have ntk : t ≠ k := fun z => by rw [z, hyk] at nt; cases nt
          have ht : (upd Hi t (.tup (bedV b'))) t = some (.tup (bedV b')) := upd_same
          have nxt : ¬ (X t ∨ t = k) := fun z => z.elim (fun z => same_old si (oldX s1 t z) nt) ntk
          refine ⟨ys ++ [.ref t], upd_same, by rw [List.length_append]; show ys.length + 1 ≤ _; omega, fun z o e => by rw [upd_ne (nk1 _ _ e)]; exact st _ _ (si _ _ e), ?_⟩
          rw [List.map_append]
          exact (DVs.append (Sy.keep fun z o nz e => ⟨st _ _ e, nz⟩) (.cons (dv_bed nxt ht) .nil)).keep fun z o nz e => ⟨by rw [upd_ne fun w => nz (.inr w)]; exact e, nz⟩
        refine ⟨_, rfl, _, rfl, _, _, rfl, rfl, _, rfl, _, _, rfl, rfl, _, rfl, ite2 (fun hc => ?_) (fun hc => ?_)⟩
        · have hc' : hg + bd.th < lv := of_decide_eq_true hc
          refine ⟨_, rfl, .inl ⟨rfl, _, .inl (.inl hyk)⟩, _, rfl, _, rfl, _, rfl, (by show 3 ≤ sizeLine; decide), fun t nt => ?_⟩
          have st := new_same (o := .tup [.str bd.rock, .int bd.th, oV bd.mark]) nt
          obtain ⟨zs, z1, z2, z3, z4⟩ := app bd t nt
          refine ⟨k, ys, _, rfl, rfl, st _ _ hyk, small1000 (by omega), ⟨zs, acc ++ [bd], rfl, z1, z2, z3, z4, .inl ⟨hc', ?_⟩⟩⟩
          rcases hB with ⟨_, e⟩ | ⟨h, _⟩
          · rw [e, ed, cutB_step (by omega), List.append_assoc]
            rfl
          · omega
        · have hc' : ¬ hg + bd.th < lv := fun z => hc (decide_eq_true z)
          refine ⟨_, rfl, _, rfl, _, _, rfl, rfl, _, rfl, ite2 (fun hd => ?_) (fun hd => ?_)⟩
          · have hd' : hg < lv := of_decide_eq_true hd
            refine ⟨_, rfl, .inl ⟨rfl, _, .inl (.inl hyk)⟩, _, rfl, _, rfl, _, rfl, _, _, rfl, rfl, _, rfl, (by show 3 ≤ sizeLine; decide), fun t nt => ?_⟩
            have st := new_same (o := .tup [.str bd.rock, .int (lv - hg), .str name]) nt
            obtain ⟨zs, z1, z2, z3, z4⟩ := app { rock := bd.rock, th := lv - hg, mark := some name } t nt
            refine ⟨k, ys, _, rfl, rfl, st _ _ hyk, small1000 (by omega), ⟨zs, acc ++ [({ rock := bd.rock, th := lv - hg, mark := some name } : Bed)], rfl, z1, z2, z3, z4, .inr ⟨by omega, ?_⟩⟩⟩
            rcases hB with ⟨_, e⟩ | ⟨h, _⟩
            · rw [e, ed, cutB_stop (by omega)]
            · omega
          · have hd' : ¬ hg < lv := fun z => hd (decide_eq_true z)
            refine ⟨ys, acc, rfl, hyk, by omega, si, Sy, .inr ⟨by omega, ?_⟩⟩
            rcases hB with ⟨h, _⟩ | ⟨_, e⟩
            · omega
            · exact e
      · rintro σ H3 ⟨zs, acc', rfl, z1, z2, z3, z4, z5⟩
        exact ⟨_, rfl, _, rfl, _, _, rfl, rfl, ⟨zs, hg + bd.th, acc', _, _, _, rfl, z1, z2, z3, z4, z5⟩⟩
    · rintro σ Hi ⟨ys, hg, acc, y9, y10, y11, rfl, hyk, hyl, si, Sy, hB⟩
      have eB : cutB name lv c.foot c.beds = acc := by
        rcases hB with ⟨_, e⟩ | ⟨_, e⟩
        · rw [e, hlen, List.drop_length]
          exact List.append_nil _
        · exact e
      refine ⟨_, rfl, _, rfl, _, rfl, _, rfl, (by show 4 ≤ sizeLine; decide), fun p np => ?_⟩
      have sp := new_same (o := .tup [oV c.root, .int c.foot, oV c.cap, .ref k]) np
      refine q _ _ ?_ ((s1.trans si).trans sp)
      rw [eC, eB]
      exact dv_col (c := wB c acc) (new_not (oldX (s1.trans si)) np) upd_same nxk (sp _ _ hyk) (Sy.keep fun z o nz e => ⟨sp _ _ e, fun w => nz (.inl w)⟩)
/-! ### what a column tells -/
def spToldC (C : Addr) : Sp := fun vs H Q _ => ∃ (p : Addr) (c : Col) (X : Addr → Prop), vs = [.ref p] ∧ ColAt C X H p c ∧ ∀ H' v, DV (fun _ => False) H' v (colD c) → Same H H' → Q v H'
theorem scTold : FnScope ["_law_one"] ["_law_one"] (defScope sToldColumn) := ⟨rfl, rfl, rfl, by decide +kernel, rfl, by decide +kernel, by decide +kernel⟩
theorem ok_told {f : Addr} {fd : FuncData} (F : Fun K "_law_told_column" "_law_told_column" sToldColumn f fd) (T : Txt mg) (C : ColF K mg) : FnOk P w K mg base CX0 3 f fd ["_law_one"] (spToldC C.C) := by
  have GpFoot := ok_foot (P := P) (w := w) (base := base) C
  have GpBeds := ok_beds (P := P) (w := w) (base := base) C
  have GpRoot := ok_root (P := P) (w := w) (base := base) C
  have GpMark := ok_mark (P := P) (w := w) (base := base) C
  refine F.ok scTold (fun vs H Q E h => ?_) (fun cdv A outer s H vs Q E hr h => ?_)
  · obtain ⟨p, c, X, rfl, _⟩ := h
    rfl
  · obtain ⟨p, c, X, rfl, CA, q⟩ := h
    have nd := scTold.nd
    obtain ⟨⟨dx, b, xs, hp, nb, hb, S⟩, npX⟩ := id CA
    refine ⟨_, (pss_one (ps_ret (pe_tup (pa_cons (pe_prop (pv 0) C.cl C.pRoot GpRoot (hr.mono (by decide)) C.bRoot .nil pass0 rfl) (pa_cons (pe_prop (pv 0) C.cl C.pFoot GpFoot (hr.mono (by decide)) C.bFoot .nil pass0 rfl) (pa_cons (pe_prop (pv 0) C.cl C.pMark GpMark (hr.mono (by decide)) C.bMark .nil pass0 rfl) (pa_cons (pe_callTy call_list_of (by rfl) T.list (by decide +kernel) (pa_cons (pe_prop (pv 0) C.cl C.pBeds GpBeds (hr.mono (by decide)) C.bBeds .nil pass0 rfl) pa_nil)) pa_nil))))))), ?_⟩
    refine ⟨_, rfl, p, dx, _, rfl, hp, p, c, X, rfl, CA, _, rfl, p, dx, _, rfl, hp, p, c, X, rfl, CA, _, rfl, p, dx, _, rfl, hp, p, c, X, rfl, CA, _, rfl, p, dx, _, rfl, hp, p, c, X, rfl, CA, fun b xs nb hb S => ?_⟩
    refine ⟨b, xs, rfl, .inr (.inl (.inl hb)), fun l nl => ⟨(by show 4 ≤ sizeLine; decide), fun t nt => ?_⟩⟩
    have s1 := new_same (o := .lst xs) nl
    have h1 : (upd H l (.lst xs)) l = some (.lst xs) := upd_same
    have s2 := new_same (o := .tup [oV c.root, .int c.foot, oV c.cap, .ref l]) nt
    exact q _ _ (dv_col (fun z => z) upd_same (fun z => z) (s2 _ _ h1) (S.keep fun z o nz e => ⟨s2 _ _ (s1 _ _ e), fun w => w⟩)) (s1.trans s2)
def spHeights : Sp := fun vs H Q _ => ∃ (v : V) (c : Col) (X : Addr → Prop), vs = [v] ∧ DV X H v (colD c) ∧ c.beds.length ≤ 900 ∧ ∀ H' l (is : List Int), H' l = some (.lst (is.map V.int)) → 0 < is.length → is.length ≤ 901 → ¬ Old H l → Same H H' → Q (.ref l) H'
theorem scHeights : FnScope ["_law_column_here", "_law_found", "_law_bed"] ["_law_column_here"] (defScope sHeights) := ⟨rfl, rfl, rfl, by decide +kernel, rfl, by decide +kernel, by decide +kernel⟩
theorem ok_heights {f : Addr} {fd : FuncData} (F : Fun K "_law_heights" "_law_heights" sHeights f fd) (T : Txt mg) : FnOk P w K mg base CX0 1 f fd ["_law_column_here"] spHeights := by
  refine F.ok scHeights (fun vs H Q E h => ?_) (fun cdv A outer s H vs Q E hr h => ?_)
  · obtain ⟨v, c, X, rfl, _⟩ := h
    rfl
  · obtain ⟨v, c, X, rfl, dv, hl, q⟩ := h
    have nd := scHeights.nd
    obtain ⟨a, l, xs, rfl, na, ha, nl, hb, S⟩ := col_inv dv
    have hlen := beds_len S
    refine ⟨_, (pss_cons (ps_set (i := 1) nd rfl (.inl rfl) (pe_lst (pa_cons (pe_ix ix_tup (pv 0) pe_int (fun _ _ => rfl)) pa_nil)))
    (pss_cons (ps_for PassesOwn.never rfl (pi_list (pe_ix ix_tup (pv 0) pe_int (fun _ _ => rfl))) (pg_name (i := 2) nd rfl (.inl rfl))
      (pss_one (ps_expr (pe_bm PySem.F.plainAttrs_list PySem.F.slot_list_append PySem.F.type_list_append mt_append (pv 1) (pa_cons (pe_op op_add (pe_ix ix_list (pv 1) (pe_un un_neg pe_int) (fun _ _ => rfl)) (pe_ix ix_tup (pv 2) pe_int (fun _ _ => rfl))) pa_nil)))))
    (pss_one (ps_ret (pv 1))))), ?_⟩
    refine ⟨_, rfl, a, _, 1, _, rfl, rfl, .inl (.inl ha), rfl, (by show 1 ≤ sizeLine; decide), fun k nk => ?_⟩
    have s1 := new_same (o := .lst [.int c.foot]) nk
    have hk : (upd H k (.lst [.int c.foot])) k = some (.lst [.int c.foot]) := upd_same
    have nk1 : ∀ z o, H z = some o → z ≠ k := fun z o e => ne_of_none e nk
    generalize upd H k (.lst [.int c.foot]) = H1 at s1 hk ⊢
    refine ⟨_, rfl, a, _, 3, _, rfl, rfl, .inl (.inl (s1 _ _ ha)), rfl, l, rfl, ⟨_, .inl (.inl (s1 _ _ hb))⟩, ?_⟩
    refine for_list (K := K) (a := l) (xs := xs) (fun i σ Hi => ∃ (is : List Int) (z : Int) (y2 : Option V), σ = [some (.ref a), some (.ref k), y2] ∧ Hi k = some (.lst ((is ++ [z]).map V.int)) ∧ is.length = i ∧ Same H Hi) ⟨[], c.foot, none, rfl, hk, rfl, s1⟩ (fun i σ Hi _ ⟨_, _, _, _, _, _, si⟩ => .inl (.inl (si _ _ hb))) ?_ ?_
    · rintro i x σ Hi hx ⟨is, z, y2, rfl, hyk, hyl, si⟩
      obtain ⟨bd, ab, hbd, rfl, _, hab⟩ := beds_get S hx
      have hi : i < c.beds.length := (List.getElem?_eq_some_iff.mp hbd).1
      refine ⟨_, rfl, .inl ⟨rfl, _, .inl (.inl hyk)⟩, _, rfl, 1, rfl, k, _, -1, .int z, rfl, rfl, .inl (.inl hyk), (by rw [List.map_append]; exact atI_last _ _), _, rfl, ab, bedV bd, 1, .int bd.th, rfl, rfl, .inl (.inl (si _ _ hab)), rfl, _, _, rfl, rfl, k, _, _, rfl, rfl, hyk, (by rw [List.length_map, List.length_append]; exact small1000 (by show is.length + 1 ≤ 1000; omega)), ?_⟩
      exact ⟨is ++ [z], z + bd.th, _, rfl, by rw [upd_same]; rw [List.map_append (l₁ := is ++ [z])]; rfl, by rw [List.length_append, hyl]; rfl, fun w o e => by rw [upd_ne (nk1 _ _ e)]; exact si _ _ e⟩
    · rintro σ Hi ⟨is, z, y2, rfl, hyk, hyl, si⟩
      exact ⟨_, rfl, q Hi k (is ++ [z]) hyk (by rw [List.length_append]; show 0 < _ + 1; omega) (by rw [List.length_append]; show _ + 1 ≤ 901; omega) (fun w => w nk) si⟩
/-! ### pools, layers, columns -/
def spPool : Sp := fun vs H Q _ => ∃ (d c : Addr) (ns : List Int) (n : Nat), vs = [.ref d] ∧ Feed H d c ns n ∧ n + 30 < 1000000000 ∧
  ∀ (a : Addr) (zs : List Str) (H' : Hp) (n' : Nat), H' a = some (.lst (zs.map V.str)) → 0 < zs.length → zs.length ≤ 10 → (∀ z ∈ zs, wordB z = true) → ¬ Old H a → n' ≤ n + 25 → Feed H' d c ns n' → Keep d H H' → Q (.ref a) H'
theorem scPool : FnScope ["_law_feed_here"] ["_law_feed_here"] (defScope sPool) := ⟨rfl, rfl, rfl, by decide +kernel, rfl, by decide +kernel, by decide +kernel⟩
theorem ok_pool {f fD fP fNM : Addr} {fd fdD fdP fdNM : FuncData} (F : Fun K "_law_pool" "_law_pool" sPool f fd) (T : Txt mg) (D : DefAt K mg "_law_draw" sDraw ["_law_feed_here", "_law_many"] fD fdD) (DP : DefAt K mg "_law_pick" sPick ["_law_feed_here", "_law_options"] fP fdP) (DNM : DefAt K mg "_law_names" sNames ["_law_feed_here", "_law_many"] fNM fdNM) : FnOk P w K mg base CX0 4 f fd ["_law_feed_here"] spPool := by
  have GD : FnOk P w K mg base CX0 1 fD fdD ["_law_feed_here", "_law_many"] spDraw := ok_draw D.F T
  have GNM : FnOk P w K mg base CX0 3 fNM fdNM ["_law_feed_here", "_law_many"] spNames := ok_names DNM.F T D DP
  refine F.ok scPool (fun vs H Q E h => ?_) (fun cdv A outer s H vs Q E hr h => ?_)
  · obtain ⟨d, c, ns, n, rfl, _⟩ := h
    rfl
  · obtain ⟨d, c, ns, n, rfl, FD, hn, q⟩ := h
    have nd := scPool.nd
    refine ⟨_, (pss_one (ps_ret (pe_call GNM (hr.mono (by decide)) (by rfl) DNM.M DNM.F.kp DNM.B .nil pass0 (pa_cons (pv 0) (pa_cons (pe_op op_add pe_int (pe_call GD (hr.mono (by decide)) (by rfl) D.M D.F.kp D.B .nil pass0 (pa_cons (pv 0) (pa_cons pe_int pa_nil)))) pa_nil))))), ?_⟩
    refine ⟨_, rfl, _, rfl, d, c, ns, n, 4, rfl, FD, by omega, by decide, by decide, fun r H1 n1 r0 r1 hn1 F1 K1 => ⟨_, _, rfl, rfl, ?_⟩⟩
    obtain ⟨m, rfl⟩ : ∃ m : Nat, r = (m : Int) := ⟨r.toNat, by omega⟩
    refine ⟨d, c, ns, n1, 1 + m, (by show [V.ref d, V.int (1 + (m : Int))] = [V.ref d, V.int ((1 + m : Nat) : Int)]; rw [Int.natCast_add]; rfl), F1, by omega, by omega, by omega, fun a zs H' n' ha hl hw no hn' F' K' => ?_⟩
    exact q a zs H' n' ha (by omega) (by omega) hw (fun z => no (Old.mono (X := fun _ => True) K1 F1.old z)) (by omega) F' (K1.trans K')
theorem pick_str {zs : List Str} {x : V} (h : x ∈ zs.map V.str) : ∃ z, z ∈ zs ∧ x = .str z := by
  obtain ⟨z, hz, rfl⟩ := List.mem_map.mp h
  exact ⟨z, hz, rfl⟩
theorem pick_o3 {z : Str} {x : V} (h : x ∈ [V.non, V.non, V.str z]) (hz : wordB z = true) : ∃ o, x = oV o ∧ okO o := by
  simp only [List.mem_cons, List.not_mem_nil, or_false] at h
  rcases h with rfl | rfl | rfl
  · exact ⟨none, rfl, fun _ e => nomatch e⟩
  · exact ⟨none, rfl, fun _ e => nomatch e⟩
  · exact ⟨some z, rfl, fun _ e => by cases e; exact hz⟩
theorem pick_o2 {z : Str} {x : V} (h : x ∈ [V.non, V.str z]) (hz : wordB z = true) : ∃ o, x = oV o ∧ okO o := by
  simp only [List.mem_cons, List.not_mem_nil, or_false] at h
  rcases h with rfl | rfl
  · exact ⟨none, rfl, fun _ e => nomatch e⟩
  · exact ⟨some z, rfl, fun _ e => by cases e; exact hz⟩
def spLayers : Sp := fun vs H Q _ => ∃ (d c : Addr) (ns : List Int) (n m : Nat) (pl : Addr) (zs : List Str), vs = [.ref d, .ref pl, .int m] ∧ Feed H d c ns n ∧ n + 10 * m + 10 < 1000000000 ∧ m ≤ 50 ∧ H pl = some (.lst (zs.map V.str)) ∧ 0 < zs.length ∧ zs.length ≤ 50 ∧ (∀ z ∈ zs, wordB z = true) ∧
  ∀ (H' : Hp) (l : Addr) (ys : List V) (bs : List Bed) (n' : Nat), H' l = some (.lst ys) → DVs (Old H) H' ys (bs.map bedD) → GoodBs bs → bs.length ≤ m → ¬ Old H l → n' ≤ n + 10 * m + 1 → Feed H' d c ns n' → Keep d H H' → Q (.ref l) H'
theorem scLayers : FnScope ["_law_feed_here", "_law_pool_here", "_law_most", "_law_found", "_law_k", "_law_rock", "_law_sign", "_law_thick"] ["_law_feed_here", "_law_pool_here", "_law_most"] (defScope sLayers) := ⟨rfl, rfl, rfl, by decide +kernel, rfl, by decide +kernel, by decide +kernel⟩
set_option maxHeartbeats 4000000 in
theorem ok_layers {f fD fP : Addr} {fd fdD fdP : FuncData} (F : Fun K "_law_layers" "_law_layers" sLayers f fd) (T : Txt mg) (D : DefAt K mg "_law_draw" sDraw ["_law_feed_here", "_law_many"] fD fdD) (DP : DefAt K mg "_law_pick" sPick ["_law_feed_here", "_law_options"] fP fdP) : FnOk P w K mg base CX0 3 f fd ["_law_feed_here", "_law_pool_here", "_law_most"] spLayers := by
  have GD : FnOk P w K mg base CX0 1 fD fdD ["_law_feed_here", "_law_many"] spDraw := ok_draw D.F T
  have GPl : FnOk P w K mg base CX0 2 fP fdP ["_law_feed_here", "_law_options"] spPickL := ok_pickL DP.F T D
  refine F.ok scLayers (fun vs H Q E h => ?_) (fun cdv A outer s H vs Q E hr h => ?_)
  · obtain ⟨d, c, ns, n, m, pl, zs, rfl, _⟩ := h
    rfl
  · obtain ⟨d, c, ns, n, m, pl, zs, rfl, FD, hn, hm, hpl, hz0, hz1, hzw, q⟩ := h
    have nd := scLayers.nd
    refine ⟨_, (pss_cons (ps_set (i := 3) nd rfl (.inl rfl) (pe_lst pa_nil))
    (pss_cons (ps_for PassesOwn.never rfl (pi_range1 (by rfl) T.range (pa_cons (pe_call GD (hr.mono (by decide)) (by rfl) D.M D.F.kp D.B .nil pass0 (pa_cons (pv 0) (pa_cons (pe_op op_add (pv 2) pe_int) pa_nil))) pa_nil)) (pg_name (i := 4) nd rfl (.inl rfl))
      (pss_cons (ps_par (i := 5) (j := 6) (by rfl) nd rfl rfl (by decide) rfl rfl (pa_cons (pe_call GPl (hr.mono (by decide)) (by rfl) DP.M DP.F.kp DP.B .nil pass0 (pa_cons (pv 0) (pa_cons (pv 1) pa_nil))) (pa_cons (pe_call GPl (hr.mono (by decide)) (by rfl) DP.M DP.F.kp DP.B .nil pass0 (pa_cons (pv 0) (pa_cons (pe_lst (pa_cons pe_non (pa_cons pe_non (pa_cons (pe_call GPl (hr.mono (by decide)) (by rfl) DP.M DP.F.kp DP.B .nil pass0 (pa_cons (pv 0) (pa_cons (pv 1) pa_nil))) pa_nil)))) pa_nil))) pa_nil)) (by rfl))
    (pss_cons (ps_set (i := 7) nd rfl (.inl rfl) (pe_call GPl (hr.mono (by decide)) (by rfl) DP.M DP.F.kp DP.B .nil pass0 (pa_cons (pv 0) (pa_cons (pe_lst (pa_cons pe_int (pa_cons pe_int (pa_cons (pe_op op_add pe_int (pe_call GD (hr.mono (by decide)) (by rfl) D.M D.F.kp D.B .nil pass0 (pa_cons (pv 0) (pa_cons pe_int pa_nil)))) (pa_cons (pe_op op_add (pe_op op_pow pe_int pe_int) (pe_call GD (hr.mono (by decide)) (by rfl) D.M D.F.kp D.B .nil pass0 (pa_cons (pv 0) (pa_cons (pe_op op_pow pe_int pe_int) pa_nil)))) pa_nil))))) pa_nil))))
    (pss_one (ps_if (PW.pt (pw_or (pt_cmpR (op_eqD hr.units) (pv 3) (pe_lst pa_nil) (nomark _)) (pw_or (pt_cmpR op_ne (pe_ix ix_tup (pe_ix ix_list (pv 3) (pe_un un_neg pe_int) (fun _ _ => rfl)) pe_int (fun _ _ => rfl)) (pv 5) (nomark _)) (pw_or1 (pt_cmpR op_notN (pe_ix ix_tup (pe_ix ix_list (pv 3) (pe_un un_neg pe_int) (fun _ _ => rfl)) pe_int (fun _ _ => rfl)) pe_non (nomark _))))))
      (pss_one (ps_expr (pe_bm PySem.F.plainAttrs_list PySem.F.slot_list_append PySem.F.type_list_append mt_append (pv 3) (pa_cons (pe_tup (pa_cons (pv 5) (pa_cons (pv 7) (pa_cons (pv 6) pa_nil)))) pa_nil))))
      pss_nil)))))
    (pss_one (ps_ret (pv 3))))), ?_⟩
    refine ⟨Nat.zero_le _, fun k nk => ?_⟩
    obtain ⟨U0, r0, F0, k0, h0, nkd⟩ := nu FD nk
    rw [r0]
    have nkc := FD.nc nk
    refine ⟨_, rfl, _, rfl, _, _, rfl, rfl, d, c, ns, n, _, rfl, F0 _, by omega, by omega, by omega, fun r H1 n1 q0 q1 hn1 F1 K1 => ⟨r, rfl, by omega, by omega, ?_⟩⟩
    refine for_range (lo := 0) (n := r.toNat) (fun i σ Hi => ∃ (n' : Nat) (ys : List V) (bs : List Bed) (y4 y5 y6 y7 : Option V), σ = [some (.ref d), some (.ref pl), some (.int m), some (.ref k), y4, y5, y6, y7] ∧ n' ≤ n + 1 + 8 * i ∧ Feed Hi d c ns n' ∧ Keep d H Hi ∧ Hi k = some (.lst ys) ∧ bs.length ≤ i ∧
        (DVs (fun z => Old H z ∨ z = k) Hi ys (bs.map bedD) ∧ GoodBs bs)) ⟨n1, [], [], none, none, none, none, rfl, by omega, F1, (k0 _).trans K1, K1 _ _ nkd (h0 _), Nat.le_refl _, .nil, ⟨(fun b hb => nomatch hb), trivial⟩⟩ ?_ ?_
    · rintro i σ Hi hi ⟨n', ys, bs, y4, y5, y6, y7, rfl, hn', Fi, ki, hk, hbl, Sy, G⟩
      have hi50 : i < 51 := by omega
      have yl := beds_len Sy
      have hpi := FD.kl ki hpl
      -- rock, sign
      refine ⟨_, rfl, _, rfl, d, c, ns, n', pl, _, rfl, Fi, by omega, hpi, (by rw [List.length_map]; exact hz0), (by rw [List.length_map]; omega), fun x H2 n2 hx hn2 F2 K2 => ?_⟩
      obtain ⟨rk, hrk, rfl⟩ := pick_str hx
      have hp2 := Fi.kl K2 hpi
      refine ⟨_, rfl, _, rfl, _, rfl, d, c, ns, n2, pl, _, rfl, F2, by omega, hp2, (by rw [List.length_map]; exact hz0), (by rw [List.length_map]; omega), fun x H3 n3 hx hn3 F3 K3 => ?_⟩
      obtain ⟨sz, hsz, rfl⟩ := pick_str hx
      refine ⟨(by show 3 ≤ sizeLine; decide), fun p3 np3 => ?_⟩
      obtain ⟨U4, r4, F4, k4, h4, n4⟩ := nu F3 np3
      rw [r4]
      refine ⟨d, c, ns, n3, p3, _, rfl, F4 _, by omega, h4 _, (by show 0 < 3; decide), (by show 3 < 1000000; decide), fun x H5 n5 hx hn5 F5 K5 => ?_⟩
      obtain ⟨sg, rfl, hsg⟩ := pick_o3 hx (hzw sz hsz)
      refine ⟨_, _, rfl, ?_⟩
      have K25 := K2.trans (K3.trans ((k4 _).trans K5))
      -- thick
      refine ⟨_, rfl, _, rfl, d, c, ns, n5, 9, rfl, F5, by omega, by decide, by decide, fun t1 H6 n6 t10 _ hn6 F6 K6 => ⟨_, _, rfl, rfl, 10, 28, rfl, rfl, ⟨by decide, by decide, by decide⟩, ?_⟩⟩
      refine ⟨_, rfl, 10, 6, rfl, rfl, ⟨by decide, by decide, by decide⟩, d, c, ns, n6, _, rfl, F6, by omega, by decide, by decide, fun t2 H7 n7 t20 _ hn7 F7 K7 => ⟨_, _, rfl, rfl, (by show 4 ≤ sizeLine; decide), fun p7 np7 => ?_⟩⟩
      obtain ⟨U8, r8, F8, k8, h8, _⟩ := nu F7 np7
      rw [r8]
      refine ⟨d, c, ns, n7, p7, _, rfl, F8 _, by omega, h8 _, (by show 0 < 4; decide), (by show 4 < 1000000; decide), fun x H9 n9 hx hn9 F9 K9 => ?_⟩
      have hx' : ∃ th : Int, x = .int th ∧ 1 ≤ th := by
        simp only [List.mem_cons, List.not_mem_nil, or_false] at hx
        rcases hx with rfl | rfl | rfl | rfl
        · exact ⟨1, rfl, by decide⟩
        · exact ⟨2, rfl, by decide⟩
        · exact ⟨1 + t1, rfl, by omega⟩
        · have h28 : (1 : Int) ≤ 10 ^ (28 : Int).toNat := by decide
          exact ⟨10 ^ (28 : Int).toNat + t2, rfl, by omega⟩
      obtain ⟨th, rfl, hth⟩ := hx'
      have Ki9 := K25.trans (K6.trans (K7.trans ((k8 _).trans K9)))
      have hk9 := Ki9 _ _ nkd hk
      have Sy9 := Sy.keep (Y := fun z => Old H z ∨ z = k) fun b o nb e => ⟨Ki9 _ _ (fun z => nb (.inl (z ▸ FD.old))) e, nb⟩
      have KH9 := ki.trans Ki9
      clear Sy K25 K6 K7 k8 K9 F8 F7 F6 F5 F4 F3 F2 K2 K3 k4 K5 r4 r8 h4 h8
      obtain ⟨sh1, sh2⟩ := shaped_beds G.all
      -- if found == [] or ..
      refine ⟨_, rfl, Nat.zero_le _, fun p np => ?_⟩
      obtain ⟨V1, w1, G1, j1, g1, m1⟩ := nu F9 np
      rw [w1]
      have hk8 := j1 (.lst []) _ _ nkd hk9
      have hp8 := g1 (.lst [])
      have Sy8 := Sy9.keep (Y := fun z => Old H z ∨ z = k) fun b o nb e => ⟨j1 (.lst []) _ _ (fun z => nb (.inl (z ▸ FD.old))) e, nb⟩
      have F10 := G1 (.lst [])
      have KH8 := KH9.trans (j1 (.lst []))
      clear Sy9 hk9 KH9 w1 g1
      generalize V1 (.lst []) = H10 at hk8 hp8 Sy8 F10 KH8 ⊢
      have ekd : (PyData.list (bs.map bedD)).hasDict = false := sh2
      have nko : ¬ Old H k := fun z => z nk
      have app : (∀ b, bs.getLast? = some b → ¬ (b.rock = rk ∧ b.mark = none)) → ∀ t, H10 t = none →
          (upd H10 t (.tup [.str rk, .int th, oV sg])) k = some (.lst ys) ∧
          Feed (upd (upd H10 t (.tup [.str rk, .int th, oV sg])) k (.lst (ys ++ [.ref t]))) d c ns n9 ∧
          Keep d H (upd (upd H10 t (.tup [.str rk, .int th, oV sg])) k (.lst (ys ++ [.ref t]))) ∧
          (upd (upd H10 t (.tup [.str rk, .int th, oV sg])) k (.lst (ys ++ [.ref t]))) k = some (.lst (ys ++ [.ref t])) ∧
          (DVs (fun z => Old H z ∨ z = k) (upd (upd H10 t (.tup [.str rk, .int th, oV sg])) k (.lst (ys ++ [.ref t]))) (ys ++ [.ref t]) ((bs ++ [({ rock := rk, th := th, mark := sg } : Bed)]).map bedD) ∧ GoodBs (bs ++ [({ rock := rk, th := th, mark := sg } : Bed)])) := by
        intro hc t nt
        have st := new_same (o := .tup [.str rk, .int th, oV sg]) nt
        have ntk : t ≠ k := fun z => by rw [z, hk8] at nt; cases nt
        have ntd : t ≠ d := F10.nd nt
        have nto : ¬ (Old H t ∨ t = k) := fun z => z.elim (KH8.free ntd nt) ntk
        have ht : (upd H10 t (.tup [.str rk, .int th, oV sg])) t = some (.tup (bedV ⟨rk, th, sg⟩)) := upd_same
        have Ft := F10.same st
        refine ⟨st _ _ hk8, ?_, fun b o nb e => ?_, upd_same, ?_, ⟨fun x hx => ?_, apart_snoc G.apart hc⟩⟩
        · obtain ⟨⟨l, l0, e⟩, hc', hl'⟩ := Ft
          exact ⟨⟨l, l0, by rw [upd_ne nkd.symm]; exact e⟩, by rw [upd_ne nkc.symm]; exact hc', hl'⟩
        · rw [upd_ne (ne_of_none e nk)]
          exact st _ _ (KH8 _ _ nb e)
        · rw [List.map_append]
          exact (DVs.append (Sy8.keep fun z o nz e => ⟨st _ _ e, nz⟩) (.cons (dv_bed nto ht) .nil)).keep fun z o nz e => ⟨by rw [upd_ne fun w => nz (.inr w)]; exact e, nz⟩
        · rcases List.mem_append.mp hx with hx | hx
          · exact G.all x hx
          · cases List.mem_singleton.mp hx
            exact ⟨hzw rk hrk, hth, hsg⟩
      refine ⟨.list (bs.map bedD), .list [], .lst (.inl (.inl hk8)) (DVs.dp Sy8 (by simpa only [PyData.hasDict] using sh2)), .lst (.inl (.inl hp8)) .nil, sh1, rfl, _, rfl, ?_⟩
      cases hx : bs.getLast? with
      | none =>
        have e0 : bs = [] := List.getLast?_eq_none_iff.mp hx
        rw [show PyData.eqv (.list (bs.map bedD)) (.list []) = true by rw [e0]; rfl]
        refine iteT ?_
        refine ⟨_, rfl, .inl ⟨rfl, _, .inl (.inl hk8)⟩, _, rfl, _, rfl, _, rfl, (by show 3 ≤ sizeLine; decide), fun t nt => ?_⟩
        obtain ⟨z1, z2, z3, z4, z5⟩ := app (fun b e => by rw [hx] at e; cases e) t nt
        exact ⟨k, ys, _, rfl, rfl, z1, small1000 (by omega), ⟨n9, ys ++ [.ref t], bs ++ [({ rock := rk, th := th, mark := sg } : Bed)], _, _, _, _, rfl, by omega, z2, z3, z4, by rw [List.length_append]; show bs.length + 1 ≤ i + 1; omega, z5⟩⟩
      | some bl =>
        rw [show PyData.eqv (.list (bs.map bedD)) (.list []) = false by
          cases hbs : bs with
          | nil => rw [hbs] at hx; cases hx
          | cons b r => rfl]
        obtain ⟨ab, hv, nab, hab, hat, SD⟩ := last_bed Sy8 hx
        refine iteF ⟨_, rfl, 1, rfl, k, ys, -1, _, rfl, rfl, .inl (.inl hk8), hat, ab, bedV bl, 0, _, rfl, rfl, .inl (.inl hab), rfl, _, rfl, rfl, _, rfl, ?_⟩
        by_cases h1 : bl.rock = rk
        · rw [show (!decide (V.str bl.rock = V.str rk)) = false by rw [h1, decide_eq_true rfl]; rfl]
          refine iteF ⟨_, rfl, 1, rfl, k, ys, -1, _, rfl, rfl, .inl (.inl hk8), hat, ab, bedV bl, 2, _, rfl, rfl, .inl (.inl hab), rfl, rfl, _, rfl, ?_⟩
          cases h2 : bl.mark with
          | none =>
            refine iteF ⟨n9, ys, bs, _, _, _, _, rfl, by omega, F10, KH8, hk8, by omega, Sy8, G⟩
          | some mz =>
            refine iteT ?_
            refine ⟨_, rfl, .inl ⟨rfl, _, .inl (.inl hk8)⟩, _, rfl, _, rfl, _, rfl, (by show 3 ≤ sizeLine; decide), fun t nt => ?_⟩
            obtain ⟨z1, z2, z3, z4, z5⟩ := app (fun b e => by rw [hx] at e; cases e; rintro ⟨_, e2⟩; rw [h2] at e2; cases e2) t nt
            exact ⟨k, ys, _, rfl, rfl, z1, small1000 (by omega), ⟨n9, ys ++ [.ref t], bs ++ [({ rock := rk, th := th, mark := sg } : Bed)], _, _, _, _, rfl, by omega, z2, z3, z4, by rw [List.length_append]; show bs.length + 1 ≤ i + 1; omega, z5⟩⟩
        · rw [show (!decide (V.str bl.rock = V.str rk)) = true by rw [decide_eq_false fun e => h1 (V.str.inj e)]; rfl]
          refine iteT ?_
          refine ⟨_, rfl, .inl ⟨rfl, _, .inl (.inl hk8)⟩, _, rfl, _, rfl, _, rfl, (by show 3 ≤ sizeLine; decide), fun t nt => ?_⟩
          obtain ⟨z1, z2, z3, z4, z5⟩ := app (fun b e => by rw [hx] at e; cases e; rintro ⟨e2, _⟩; exact h1 e2) t nt
          exact ⟨k, ys, _, rfl, rfl, z1, small1000 (by omega), ⟨n9, ys ++ [.ref t], bs ++ [({ rock := rk, th := th, mark := sg } : Bed)], _, _, _, _, rfl, by omega, z2, z3, z4, by rw [List.length_append]; show bs.length + 1 ≤ i + 1; omega, z5⟩⟩
    · rintro σ Hi ⟨n', ys, bs, y4, y5, y6, y7, rfl, hn', Fi, ki, hk, hbl, Sy, G⟩
      refine ⟨_, rfl, q Hi k ys bs n' hk (Sy.keep fun b o nb e => ⟨e, fun z => nb (.inl z)⟩) G (by omega) (fun z => z nk) (by omega) Fi ki⟩
theorem kp_of {d : Addr} {A B : Hp} (s : Same A B) : Keep d A B := fun b o _ e => s b o e
def spColumn : Sp := fun vs H Q _ => ∃ (d c : Addr) (ns : List Int) (n m : Nat) (pl : Addr) (zs : List Str), vs = [.ref d, .ref pl, .int m] ∧ Feed H d c ns n ∧ n + 10 * m + 40 < 1000000000 ∧ m ≤ 50 ∧ H pl = some (.lst (zs.map V.str)) ∧ 0 < zs.length ∧ zs.length ≤ 50 ∧ (∀ z ∈ zs, wordB z = true) ∧
  ∀ (H' : Hp) (v : V) (co : Col) (n' : Nat), DV (Old H) H' v (colD co) → GoodC co → co.beds.length ≤ m → n' ≤ n + 10 * m + 20 → Feed H' d c ns n' → Keep d H H' → Q v H'
theorem scColumn : FnScope ["_law_feed_here", "_law_pool_here", "_law_most", "_law_base", "_law_seal"] ["_law_feed_here", "_law_pool_here", "_law_most"] (defScope sColumn) := ⟨rfl, rfl, rfl, by decide +kernel, rfl, by decide +kernel, by decide +kernel⟩
set_option maxHeartbeats 1000000 in
theorem ok_column {f fD fP fLV fLA : Addr} {fd fdD fdP fdLV fdLA : FuncData} (F : Fun K "_law_column" "_law_column" sColumn f fd) (T : Txt mg) (D : DefAt K mg "_law_draw" sDraw ["_law_feed_here", "_law_many"] fD fdD) (DP : DefAt K mg "_law_pick" sPick ["_law_feed_here", "_law_options"] fP fdP)
    (DLV : DefAt K mg "_law_level" sLevel ["_law_feed_here"] fLV fdLV) (DLA : DefAt K mg "_law_layers" sLayers ["_law_feed_here", "_law_pool_here", "_law_most"] fLA fdLA) : FnOk P w K mg base CX0 4 f fd ["_law_feed_here", "_law_pool_here", "_law_most"] spColumn := by
  have GPl : FnOk P w K mg base CX0 2 fP fdP ["_law_feed_here", "_law_options"] spPickL := ok_pickL DP.F T D
  have GLV : FnOk P w K mg base CX0 3 fLV fdLV ["_law_feed_here"] spLevel := ok_level DLV.F T D DP
  have GLA : FnOk P w K mg base CX0 3 fLA fdLA ["_law_feed_here", "_law_pool_here", "_law_most"] spLayers := ok_layers DLA.F T D DP
  refine F.ok scColumn (fun vs H Q E h => ?_) (fun cdv A outer s H vs Q E hr h => ?_)
  · obtain ⟨d, c, ns, n, m, pl, zs, rfl, _⟩ := h
    rfl
  · obtain ⟨d, c, ns, n, m, pl, zs, rfl, FD, hn, hm, hpl, hz0, hz1, hzw, q⟩ := h
    have nd := scColumn.nd
    refine ⟨_, (pss_cons (ps_par (i := 3) (j := 4) (by rfl) nd rfl rfl (by decide) rfl rfl (pa_cons (pe_call GPl (hr.mono (by decide)) (by rfl) DP.M DP.F.kp DP.B .nil pass0 (pa_cons (pv 0) (pa_cons (pe_lst (pa_cons pe_non (pa_cons pe_non (pa_cons (pe_call GPl (hr.mono (by decide)) (by rfl) DP.M DP.F.kp DP.B .nil pass0 (pa_cons (pv 0) (pa_cons (pv 1) pa_nil))) pa_nil)))) pa_nil))) (pa_cons (pe_call GPl (hr.mono (by decide)) (by rfl) DP.M DP.F.kp DP.B .nil pass0 (pa_cons (pv 0) (pa_cons (pe_lst (pa_cons pe_non (pa_cons (pe_call GPl (hr.mono (by decide)) (by rfl) DP.M DP.F.kp DP.B .nil pass0 (pa_cons (pv 0) (pa_cons (pv 1) pa_nil))) pa_nil))) pa_nil))) pa_nil)) (by rfl))
    (pss_one (ps_ret (pe_tup (pa_cons (pv 3) (pa_cons (pe_call GLV (hr.mono (by decide)) (by rfl) DLV.M DLV.F.kp DLV.B .nil pass0 (pa_cons (pv 0) pa_nil)) (pa_cons (pv 4) (pa_cons (pe_call GLA (hr.mono (by decide)) (by rfl) DLA.M DLA.F.kp DLA.B .nil pass0 (pa_cons (pv 0) (pa_cons (pv 1) (pa_cons (pv 2) pa_nil)))) pa_nil)))))))), ?_⟩
    have lz0 : 0 < (zs.map V.str).length := by rw [List.length_map]; exact hz0
    have lz1 : (zs.map V.str).length < 1000000 := by rw [List.length_map]; omega
    -- base
    refine ⟨_, rfl, _, rfl, _, rfl, d, c, ns, n, pl, _, rfl, FD, by omega, hpl, lz0, lz1, fun x H1 n1 hx hn1 F1 K1 => ?_⟩
    obtain ⟨s1, hs1, rfl⟩ := pick_str hx
    refine ⟨(by show 3 ≤ sizeLine; decide), fun p1 np1 => ?_⟩
    obtain ⟨U2, r2, F2, k2, h2, _⟩ := nu F1 np1
    rw [r2]
    refine ⟨d, c, ns, n1, p1, _, rfl, F2 _, by omega, h2 _, (by show 0 < 3; decide), (by show 3 < 1000000; decide), fun x H3 n3 hx hn3 F3 K3 => ?_⟩
    obtain ⟨bo, rfl, hbo⟩ := pick_o3 hx (hzw s1 hs1)
    have K03 := K1.trans ((k2 _).trans K3)
    have hpl3 := FD.kl K03 hpl
    -- mark
    refine ⟨_, rfl, _, rfl, _, rfl, d, c, ns, n3, pl, _, rfl, F3, by omega, hpl3, lz0, lz1, fun x H4 n4 hx hn4 F4 K4 => ?_⟩
    obtain ⟨s2, hs2, rfl⟩ := pick_str hx
    refine ⟨(by show 2 ≤ sizeLine; decide), fun p4 np4 => ?_⟩
    obtain ⟨U5, r5, F5, k5, h5, _⟩ := nu F4 np4
    rw [r5]
    refine ⟨d, c, ns, n4, p4, _, rfl, F5 _, by omega, h5 _, (by show 0 < 2; decide), (by show 2 < 1000000; decide), fun x H6 n6 hx hn6 F6 K6 => ?_⟩
    obtain ⟨co, rfl, hco⟩ := pick_o2 hx (hzw s2 hs2)
    have K06 := K03.trans (K4.trans ((k5 _).trans K6))
    refine ⟨_, _, rfl, ?_⟩
    -- the column
    refine ⟨_, rfl, _, rfl, d, c, ns, n6, rfl, F6, by omega, fun lv H7 n7 hn7 F7 K7 => ?_⟩
    have K07 := K06.trans K7
    refine ⟨_, rfl, _, rfl, _, rfl, _, rfl, d, c, ns, n7, m, pl, zs, rfl, F7, by omega, hm, FD.kl K07 hpl, hz0, hz1, hzw, fun H8 l ys bs n8 hl S G hbl nol hn8 F8 K8 => ?_⟩
    refine ⟨(by show 4 ≤ sizeLine; decide), fun p9 np9 => ?_⟩
    have sp := new_same (o := .tup [oV bo, .int lv, oV co, .ref l]) np9
    have o07 : ∀ z, Old H z → Old H7 z := fun z => Old.mono (X := fun _ => True) K07 F7.old
    have K08 := K07.trans K8
    refine q _ _ ⟨bo, lv, co, bs⟩ n8 (dv_col (c := ⟨bo, lv, co, bs⟩) (K08.free (F8.nd np9) np9) upd_same (fun z => nol (o07 l z)) (sp _ _ hl) (S.keep fun b o nb e => ⟨sp _ _ e, fun z => nb (o07 b z)⟩)) ⟨hbo, hco, G⟩ hbl (by omega) (F8.same sp) (K08.trans fun b o _ e => sp b o e)
def spBuilt (C : Addr) : Sp := fun vs H Q _ => ∃ (v : V) (c : Col) (X : Addr → Prop), vs = [v] ∧ DV X H v (colD c) ∧ GoodC c ∧ c.beds.length ≤ 900 ∧ ∀ H' p, ColAt C (Old H) H' p c → Same H H' → Q (.ref p) H'
theorem scBuilt : FnScope ["_law_column_here"] ["_law_column_here"] (defScope sBuilt) := ⟨rfl, rfl, rfl, by decide +kernel, rfl, by decide +kernel, by decide +kernel⟩
theorem ok_built {f : Addr} {fd : FuncData} (F : Fun K "_law_built" "_law_built" sBuilt f fd) (T : Txt mg) (C : ColF K mg) (D : Defs K mg) : FnOk P w K mg base CX0 6 f fd ["_law_column_here"] (spBuilt C.C) := by
  have GInitl := initL (P := P) (w := w) (base := base) C T D
  refine F.ok scBuilt (fun vs H Q E h => ?_) (fun cdv A outer s H vs Q E hr h => ?_)
  · obtain ⟨v, c, X, rfl, _⟩ := h
    rfl
  · obtain ⟨v, c, X, rfl, dv, G, hl, q⟩ := h
    have nd := scBuilt.nd
    obtain ⟨a, l, xs, rfl, na, ha, nl, hb, S⟩ := col_inv dv
    refine ⟨_, (pss_one (ps_ret (pe_makeN C.mkC GInitl (hr.mono (by decide)) (by rfl) C.mgC C.kb2rm pass0 (pa_cons (pe_ix ix_tup (pv 0) pe_int (fun _ _ => rfl)) (pa_cons (pe_ix ix_tup (pv 0) pe_int (fun _ _ => rfl)) pa_nil)) (pk_cons (pe_ix ix_tup (pv 0) pe_int (fun _ _ => rfl)) (pk_cons (pe_ix ix_tup (pv 0) pe_int (fun _ _ => rfl)) pk_nil))))), ?_⟩
    refine ⟨_, rfl, a, _, 1, _, rfl, rfl, .inl (.inl ha), rfl, _, rfl, a, _, 3, _, rfl, rfl, .inl (.inl ha), rfl, _, rfl, a, _, 0, _, rfl, rfl, .inl (.inl ha), rfl, _, rfl, a, _, 2, _, rfl, rfl, .inl (.inl ha), rfl, rfl, rfl, ?_⟩
    exact make_goalL (c := c) hb S G hl q
def spNear : Sp := fun vs H Q _ => ∃ (d c : Addr) (ns : List Int) (n : Nat) (v : V) (co : Col) (X : Addr → Prop), vs = [.ref d, v] ∧ Feed H d c ns n ∧ n + 20 < 1000000000 ∧ DV X H v (colD co) ∧ co.beds.length ≤ 900 ∧
  ∀ (i : Int) (H' : Hp) (n' : Nat), n' ≤ n + 10 → Feed H' d c ns n' → Keep d H H' → Q (.int i) H'
theorem scNear : FnScope ["_law_feed_here", "_law_column_here"] ["_law_feed_here", "_law_column_here"] (defScope sNear) := ⟨rfl, rfl, rfl, by decide +kernel, rfl, by decide +kernel, by decide +kernel⟩
theorem ok_near {f fD fP fLV fHE : Addr} {fd fdD fdP fdLV fdHE : FuncData} (F : Fun K "_law_near" "_law_near" sNear f fd) (T : Txt mg) (D : DefAt K mg "_law_draw" sDraw ["_law_feed_here", "_law_many"] fD fdD) (DP : DefAt K mg "_law_pick" sPick ["_law_feed_here", "_law_options"] fP fdP)
    (DLV : DefAt K mg "_law_level" sLevel ["_law_feed_here"] fLV fdLV) (DHE : DefAt K mg "_law_heights" sHeights ["_law_column_here"] fHE fdHE) : FnOk P w K mg base CX0 4 f fd ["_law_feed_here", "_law_column_here"] spNear := by
  have GD : FnOk P w K mg base CX0 1 fD fdD ["_law_feed_here", "_law_many"] spDraw := ok_draw D.F T
  have GPl : FnOk P w K mg base CX0 2 fP fdP ["_law_feed_here", "_law_options"] spPickL := ok_pickL DP.F T D
  have GLV : FnOk P w K mg base CX0 3 fLV fdLV ["_law_feed_here"] spLevel := ok_level DLV.F T D DP
  have GHE : FnOk P w K mg base CX0 1 fHE fdHE ["_law_column_here"] spHeights := ok_heights DHE.F T
  refine F.ok scNear (fun vs H Q E h => ?_) (fun cdv A outer s H vs Q E hr h => ?_)
  · obtain ⟨d, c, ns, n, v, co, X, rfl, _⟩ := h
    rfl
  · obtain ⟨d, c, ns, n, v, co, X, rfl, FD, hn, dv, hl, q⟩ := h
    have nd := scNear.nd
    refine ⟨_, (pss_one (ps_ret (pe_call GPl (hr.mono (by decide)) (by rfl) DP.M DP.F.kp DP.B .nil pass0 (pa_cons (pv 0) (pa_cons (pe_lst (pa_cons (pe_op op_sub (pe_op op_add (pe_call GPl (hr.mono (by decide)) (by rfl) DP.M DP.F.kp DP.B .nil pass0 (pa_cons (pv 0) (pa_cons (pe_call GHE (hr.mono (by decide)) (by rfl) DHE.M DHE.F.kp DHE.B .nil pass0 (pa_cons (pv 1) pa_nil)) pa_nil))) (pe_call GD (hr.mono (by decide)) (by rfl) D.M D.F.kp D.B .nil pass0 (pa_cons (pv 0) (pa_cons pe_int pa_nil)))) pe_int) (pa_cons (pe_call GLV (hr.mono (by decide)) (by rfl) DLV.M DLV.F.kp DLV.B .nil pass0 (pa_cons (pv 0) pa_nil)) pa_nil))) pa_nil))))), ?_⟩
    refine ⟨_, rfl, _, rfl, _, rfl, _, co, X, rfl, dv, hl, fun H1 l is hil h0 h9 _ s1 => ?_⟩
    refine ⟨d, c, ns, n, l, _, rfl, FD.same s1, by omega, hil, (by rw [List.length_map]; exact h0), (by rw [List.length_map]; omega), fun x H2 n2 hx hn2 F2 K2 => ?_⟩
    obtain ⟨i, hi, rfl⟩ := List.mem_map.mp hx
    refine ⟨_, rfl, d, c, ns, n2, 3, rfl, F2, by omega, by decide, by decide, fun r H3 n3 _ _ hn3 F3 K3 => ⟨_, _, rfl, rfl, _, _, rfl, rfl, ?_⟩⟩
    refine ⟨_, rfl, d, c, ns, n3, rfl, F3, by omega, fun lv H4 n4 hn4 F4 K4 => ⟨(by show 2 ≤ sizeLine; decide), fun p np => ?_⟩⟩
    obtain ⟨U5, r5, F5, k5, h5, _⟩ := nu F4 np
    rw [r5]
    refine ⟨d, c, ns, n4, p, _, rfl, F5 _, by omega, h5 _, (by show 0 < 2; decide), (by show 2 < 1000000; decide), fun y H6 n6 hy hn6 F6 K6 => ?_⟩
    have hy' : ∃ z : Int, y = .int z := by
      simp only [List.mem_cons, List.not_mem_nil, or_false] at hy
      rcases hy with rfl | rfl <;> exact ⟨_, rfl⟩
    obtain ⟨z, rfl⟩ := hy'
    exact q z H6 n6 (by omega) F6 ((kp_of (d := d) s1).trans (K2.trans (K3.trans (K4.trans ((k5 _).trans K6)))))
/-! ### len and != of an own class -/
section
variable {X : Cx} {CX : CXT} {n : Nat} {C f : Addr} {fd : FuncData} {ps : List Str} {sp : Sp}
open PySem PySem.Spec PyProof.Rows in
theorem call_lenOwn (F : FnOk X.prog X.w X.K X.mg X.base CX n f fd ps sp) (hr : Room (n + 1) X.A) (hs : PySem.W.findIn X.K (.ref C) "__len__" = some (some (.ref f))) (hf : PySem.W.isFn X.K (.ref f) = true) (hb : Binds X.K fd ps []) (hx : Passes CX X E0) :
    CallR X (.builtin "len") (fun xs H Q => ∃ a dx fs, xs = [V.ref a] ∧ H a = some (.ins C dx fs) ∧ sp [.ref a] H (fun v H' => ∃ i : Int, v = .int i ∧ (0 ≤ i ∧ i < 2 ^ 63) ∧ Q (.int i) H') E0) := by
  intro pins s σ H xs us Q I r h
  obtain ⟨a, dx, fs, rfl, ha, q⟩ := h
  obtain ⟨u, rfl, e⟩ := vals1 r
  cases (show u = Value.ref a from e)
  obtain ⟨mA, J, _⟩ := ins_get I.hok ha
  obtain ⟨od, J, _⟩ := J.look
  obtain ⟨m, hF⟩ := I.fr
  refine PySem.W.len_K hF I.ok.mod.kin J hs hf ?_
  have hl := F.len _ _ _ _ q
  refine wpAny_call (codeAny_mono (F.run X.A.in1 X.stack s H ⟨[.ref a], []⟩ [.ref a] [.ref a] _ E0 hr.in1 I.env0.in1 (by
    have := hb s [.ref a] I.kIn (by simpa using hl)
    simpa using this) (.cons rfl .nil) q) fun r s' hq => ?_)
  cases r with
  | error e => exact hx pins σ H s e s' I hq
  | ok fl =>
    cases fl with
    | ret z =>
      obtain ⟨v, H', I', rz, i, ev, b, q'⟩ := I.after hq
      subst ev
      obtain ⟨t, rfl⟩ := rz
      exact ⟨b, .int i, H', I'.tok _, ⟨_, rfl⟩, q'⟩
    | next => exact False.elim hq
    | brk => exact False.elim hq
    | cont => exact False.elim hq
end
section
variable {X : Cx} {CX : CXT} {n : Nat} {C f : Addr} {fd : FuncData} {ps : List Str} {sp : Sp}
open PySem PySem.Spec PyProof.Rows in
theorem op_neOwn (F : FnOk X.prog X.w X.K X.mg X.base CX n f fd ps sp) (hr : Room (n + 3) X.A) (hs : PySem.W.findIn X.K (.ref C) "__ne__" = some (some (.builtin "object.__ne__"))) (he : PySem.W.findIn X.K (.ref C) "__eq__" = some (some (.ref f))) (hf : PySem.W.isFn X.K (.ref f) = true)
    (ho : PySem.W.mroIn X.K C (.type "object") = some true) (hb : Binds X.K fd ps []) (hx : Passes CX X E0) :
    OpR X (compareOp .NotEq) (fun x y H Q => ∃ a b dx dy fs gs, x = V.ref a ∧ y = V.ref b ∧ H a = some (.ins C dx fs) ∧ H b = some (.ins C dy gs) ∧ sp [.ref a, .ref b] H (fun v H' => ∃ k : Bool, v = .bl k ∧ Q (.bl (!k)) H') E0) := by
  intro pins s σ H x y v u Q I rx ry h
  obtain ⟨a, b, dx, dy, fs, gs, rfl, rfl, ha, hb', q⟩ := h
  cases rx
  cases ry
  obtain ⟨mA, J, _⟩ := ins_get I.hok ha
  obtain ⟨mB, J', _⟩ := ins_get I.hok hb'
  obtain ⟨od, J, _⟩ := J.look
  obtain ⟨od', J', _⟩ := J'.look
  have KI := I.kIn
  have S := PySem.F.cmp_object.ne
  have hl := F.len _ _ _ _ q
  have hu1 : X.A.in1.units < cLine := by
    have := hr.un
    show X.A.units + 1 < cLine
    omega
  -- the own == at two levels deeper
  have own : wpAny (model X.prog X.w) X.A.in1 (call (.ref f) [.ref a, .ref b]) (fun r s' => ∃ k, r = Value.bool k ∧ EP X pins σ Q (Value.bool (!k)) s') X.xe s := by
    refine wpAny_call (codeAny_mono (F.run X.A.in1 X.stack s H ⟨[.ref a, .ref b], []⟩ [.ref a, .ref b] [.ref a, .ref b] _ E0 (hr.in1.mono (by omega)) I.env0.in1 (by
      have := hb s [.ref a, .ref b] I.kIn (by simpa using hl)
      simpa using this) (.cons rfl (.cons rfl .nil)) q) fun r s' hq => ?_)
    cases r with
    | error e => exact hx pins σ H s e s' I hq
    | ok fl =>
      cases fl with
      | ret z =>
        obtain ⟨v, H', I', rz, k, ev, q'⟩ := I.after hq
        subst ev
        cases (show z = Value.bool k from rz)
        exact ⟨k, rfl, .bl (!k), H', I', rfl, q'⟩
      | next => exact False.elim hq
      | brk => exact False.elim hq
      | cont => exact False.elim hq
  have sub : PySem.W.Looks (model X.prog X.w) s.heap (isInstance (.ref a) (.type "object")) true := J.type.andThen (PySem.W.looks_mroIn KI ho)
  have body : wpAny (model X.prog X.w) X.A.in1 (Builtin.«object.__ne__» ⟨[.ref a, .ref b], []⟩) (fun r s' => ∃ k, r = Fin.done (.ret (Value.bool (!k))) ∧ EP X pins σ Q (Value.bool (!k)) s') X.xe s := by
    unfold Builtin.«object.__ne__»
    refine wpAny_bind (wpAny_of_eq (a := (Value.ref a, [Value.ref b])) rfl ?_)
    refine wpAny_bind (wpAny_cRoomFor hu1 ?_)
    refine wpAny_bind (PySem.W.ifBound_K KI J he hf (wpAny_mono own (fun r s' hq => ?_) fun _ _ e => e))
    obtain ⟨k, rfl, hq⟩ := hq
    refine wpAny_bind (wpAny_truthy_bool ?_)
    exact wpAny_pure ⟨k, rfl, hq⟩
  have ne : wpAny (model X.prog X.w) X.A (call (.builtin "object.__ne__") [.ref a, .ref b]) (fun r s' => ∃ k, r = Value.bool k ∧ EP X pins σ Q (Value.bool k) s') X.xe s := by
    refine wpAny_call (codeAny_call_builtin S.plain PySem.F.cmpEntry_ne (@PySem.W.check_slot (model X.prog X.w) _ _ s "object.__ne__" "object" "__ne__" (.ref a) [.ref b] [] _ PySem.F.cmpKind_ne PySem.F.cmpSplit_ne sub (PySem.F.cmpArgs_ne _ _) ?_))
    refine wpAny_mono body (fun r s' hq => ?_) fun _ _ e => e
    obtain ⟨k, rfl, hq⟩ := hq
    exact ⟨!k, rfl, hq⟩
  have one : wpAny (model X.prog X.w) X.A (tryCompare (.ref a) (cmpInfo .NotEq).2.1 (.ref b)) (fun r s' => ∃ v, r = some v ∧ EP X pins σ Q v s') X.xe s := by
    unfold tryCompare
    have bnd : wpAny (model X.prog X.w) X.A (callSpecialIfBound? (.ref a) (cmpInfo .NotEq).2.1 [.ref b]) (fun r s' => ∃ k, r = some (Value.bool k) ∧ EP X pins σ Q (Value.bool k) s') X.xe s := by
      show wpAny (model X.prog X.w) X.A (callSpecialIfBound? (.ref a) "__ne__" [.ref b]) _ X.xe s
      simp only [callSpecialIfBound?, bindSpecialIfBound?]
      refine wpAny_holding (wpAny_bind (wpAny_bind (wpAny_bind (J.type.here ((PySem.W.looks_findIn KI hs).here ?_)))))
      refine wpAny_bind (wpAny_askSetting (wpAny_ite ?_))
      have fin : wpAny (model X.prog X.w) X.A (call (.builtin "object.__ne__") ([.ref a] ++ [.ref b]) >>= fun v => pure (some v)) (fun r s' => ∃ k, r = some (Value.bool k) ∧ EP X pins σ Q (Value.bool k) s') X.xe s :=
        wpAny_bind (wpAny_mono ne (fun v s' hv => wpAny_pure (by obtain ⟨k, rfl, hq⟩ := hv; exact ⟨k, rfl, hq⟩)) fun _ _ e => e)
      split
      · simp only [S.bind]
        exact wpAny_bind (wpAny_pure (wpAny_pure (by exact fin)))
      · simp only [S.bind]
        exact wpAny_tryCatch (wpAny_bind (wpAny_pure (wpAny_pure (by exact fin))))
    refine wpAny_bind (wpAny_mono bnd (fun r s' hq => ?_) fun _ _ e => e)
    obtain ⟨k, rfl, hq⟩ := hq
    exact wpAny_pure ⟨_, rfl, hq⟩
  show wpAny _ _ (richCompare .NotEq (.ref a) (.ref b)) _ _ s
  unfold richCompare
  simp only [oneThing_ref]
  have hu0 : X.A.units < cLine := by
    have := hr.un
    omega
  refine wpAny_holding (wpAny_bind (wpAny_cRoomFor hu0 ?_))
  refine wpAny_bind (J.type.here (wpAny_bind (J'.type.here ?_)))
  rw [show (Value.ref C != Value.ref C) = false from by simp]
  simp only [Bool.false_eq_true, if_false]
  refine wpAny_bind (wpAny_pure ?_)
  simp only [Bool.false_eq_true, if_false]
  refine wpAny_bind (wpAny_mono one (fun r s' z => ?_) fun _ _ e => e)
  obtain ⟨v, rfl, hq⟩ := z
  exact wpAny_pure hq
end
/-! ### == and len of columns -/
abbrev sMEq : Stmt := (inClass (top 17) 6)
abbrev sMLen : Stmt := (inClass (top 17) 7)
structure ColG (K : PySem.W.Frag) (mg : Str → Option Value) (C : ColF K mg) where
  fq : Addr
  dq : FuncData
  FEq : Fun K "__eq__" "Column.__eq__" sMEq fq dq
  bEq : Binds K dq ["self", "other"] []
  hNe : PySem.W.findIn K (.ref C.C) "__ne__" = some (some (.builtin "object.__ne__"))
  hEq : PySem.W.findIn K (.ref C.C) "__eq__" = some (some (.ref fq))
  fEq : PySem.W.isFn K (.ref fq) = true
  hObj : PySem.W.mroIn K C.C (.type "object") = some true
  fl : Addr
  dl : FuncData
  FLen : Fun K "__len__" "Column.__len__" sMLen fl dl
  bLen : Binds K dl ["self"] []
  hLen : PySem.W.findIn K (.ref C.C) "__len__" = some (some (.ref fl))
  fLen : PySem.W.isFn K (.ref fl) = true
  ha : PySem.W.findIn K (.ref C.C) "__class__" = some (some (.builtin "object.__class__"))
  hn : PySem.W.specialIn K (.builtin "object.__class__") "__get__" = some (some (.builtin "getset_descriptor.__get__"))
  ht : PySem.W.takesIn K (.builtin "object.__class__") = some true
def spEqC (C : Addr) : Sp := fun vs H Q _ => ∃ (p p2 : Addr) (c : Col) (X Y : Addr → Prop), vs = [.ref p, .ref p2] ∧ ColAt C X H p c ∧ ColAt C Y H p2 c ∧ GoodC c ∧ Q (.bl true) H
theorem shaped_bedsT {bs : List Bed} (h : ∀ b ∈ bs, GoodB b) : SeqAt.shaped (.tuple (bs.map bedD)) = true ∧ PyData.hasDictAll (bs.map bedD) = false := by
  obtain ⟨h1, h2, h3⟩ := beds_lay h
  refine ⟨?_, h3⟩
  simp only [SeqAt.shaped, PyData.canLay0, PyData.depth, h1, Bool.true_and]
  exact decide_eq_true (by omega)
theorem scal_o (o : Option Str) : scal (oV o) (oV o) = true := by cases o <;> rfl
theorem scMEq : FnScope ["self", "other"] ["self", "other"] (defScope sMEq) := ⟨rfl, rfl, rfl, by decide +kernel, rfl, by decide +kernel, by decide +kernel⟩
theorem ok_eqC (C : ColF K mg) (C2 : ColG K mg C) (T : Txt mg) : FnOk P w K mg base CX0 1 C2.fq C2.dq ["self", "other"] (spEqC C.C) := by
  refine C2.FEq.ok scMEq (fun vs H Q E h => ?_) (fun cdv A outer s H vs Q E hr h => ?_)
  · obtain ⟨p, p2, c, X, Y, rfl, _⟩ := h
    rfl
  · obtain ⟨p, p2, c, X, Y, rfl, CA, CB, G, q⟩ := h
    have nd := scMEq.nd
    obtain ⟨⟨dx, b, xs, hp, nb, hb, S⟩, _⟩ := CA
    obtain ⟨⟨dx2, b2, xs2, hp2, nb2, hb2, S2⟩, _⟩ := CB
    obtain ⟨sh, hd⟩ := shaped_bedsT G.beds.all
    refine ⟨_, (pss_one (ps_ret (pe_and (pe_callB call_isi (by rfl) T.isinstance (by decide +kernel) (pa_cons (pv 1) (pa_cons (pe_glob (v := .ref C.C) rfl C.mgC rfl) pa_nil))) (pe_and (pe_cmpR op_eq (pe_fld (pv 0) rfl) (pe_fld (pv 1) rfl) (nomark _)) (pe_and (pe_cmpR (op_eqD hr.units) (pe_fld (pv 0) rfl) (pe_fld (pv 1) rfl) (nomark _)) (pe_and (pe_cmpR op_eq (pe_fld (pv 0) rfl) (pe_fld (pv 1) rfl) (nomark _)) (pe_one (pe_cmpR op_eq (pe_fld (pv 0) rfl) (pe_fld (pv 1) rfl) (nomark _))))))))), ?_⟩
    refine ⟨_, rfl, _, .ref C.C, .ref C.C, .ref C.C, true, rfl, .own _, .base (.ins hp2 C.cl C2.ha C2.hn C2.ht C2.hObj), (by unfold PySem.W.kitOne; rw [if_pos (beq_self_eq_true _)]), _, rfl, iteT ?_⟩
    refine ⟨_, rfl, p, C.C, dx, _, _, rfl, hp, C.cl, C.nFoot, cF_foot _ _ _ _, _, rfl, p2, C.C, dx2, _, _, rfl, hp2, C.cl, C.nFoot, cF_foot _ _ _ _, rfl, _, rfl, ?_⟩
    rw [decide_eq_true rfl]
    refine iteT ⟨_, rfl, p, C.C, dx, _, _, rfl, hp, C.cl, C.nBeds, cF_beds _ _ _ _, _, rfl, p2, C.C, dx2, _, _, rfl, hp2, C.cl, C.nBeds, cF_beds _ _ _ _, .tuple (c.beds.map bedD), .tuple (c.beds.map bedD), .tup (.inl (.inl hb)) (DVs.dp S hd), .tup (.inl (.inl hb2)) (DVs.dp S2 hd), sh, sh, _, rfl, ?_⟩
    rw [show PyData.eqv (.tuple (c.beds.map bedD)) (.tuple (c.beds.map bedD)) = true from SeqAt.eqv_refl _ (SeqAt.canLay_of_shaped sh)]
    refine iteT ⟨_, rfl, p, C.C, dx, _, _, rfl, hp, C.cl, C.nRoot, cF_root _ _ _ _, _, rfl, p2, C.C, dx2, _, _, rfl, hp2, C.cl, C.nRoot, cF_root _ _ _ _, scal_o _, _, rfl, ?_⟩
    rw [decide_eq_true rfl]
    refine iteT ⟨_, rfl, p, C.C, dx, _, _, rfl, hp, C.cl, C.nMark, cF_mark _ _ _ _, _, rfl, p2, C.C, dx2, _, _, rfl, hp2, C.cl, C.nMark, cF_mark _ _ _ _, scal_o _, ?_⟩
    rw [decide_eq_true rfl]
    exact q
def spLenC (C : Addr) : Sp := fun vs H Q _ => ∃ (p : Addr) (c : Col) (X : Addr → Prop), vs = [.ref p] ∧ ColAt C X H p c ∧ Q (.int c.beds.length) H
theorem scMLen : FnScope ["self"] ["self"] (defScope sMLen) := ⟨rfl, rfl, rfl, by decide +kernel, rfl, by decide +kernel, by decide +kernel⟩
theorem ok_lenC (C : ColF K mg) (C2 : ColG K mg C) (T : Txt mg) : FnOk P w K mg base CX0 1 C2.fl C2.dl ["self"] (spLenC C.C) := by
  refine C2.FLen.ok scMLen (fun vs H Q E h => ?_) (fun cdv A outer s H vs Q E hr h => ?_)
  · obtain ⟨p, c, X, rfl, _⟩ := h
    rfl
  · obtain ⟨p, c, X, rfl, ⟨⟨dx, b, xs, hp, nb, hb, S⟩, _⟩, q⟩ := h
    have nd := scMLen.nd
    have hlen := beds_len S
    refine ⟨_, (pss_one (ps_ret (pe_callB call_len_seq (by rfl) T.len (by decide +kernel) (pa_cons (pe_fld (pv 0) rfl) pa_nil)))), ?_⟩
    refine ⟨_, rfl, p, C.C, dx, _, _, rfl, hp, C.cl, C.nBeds, cF_beds _ _ _ _, b, xs, rfl, .inr (.inl (.inl hb)), ?_⟩
    rw [hlen]
    exact q
/-! ### the next one -/
def spNext (C : Addr) : Sp := fun vs H Q _ => ∃ (d c : Addr) (ns : List Int) (n : Nat) (pl p : Addr) (zs : List Str) (v : V) (co : Col) (X : Addr → Prop), vs = [.ref d, .ref pl, .ref p, v] ∧ Feed H d c ns n ∧ n + 40 < 1000000000 ∧ H pl = some (.lst (zs.map V.str)) ∧ 0 < zs.length ∧ zs.length ≤ 50 ∧ (∀ z ∈ zs, wordB z = true) ∧
  ColAt C X H p co ∧ DV X H v (colD co) ∧ GoodC co ∧ co.beds.length ≤ 700 ∧ X d ∧ (∀ z, X z → Old H z) ∧
  ∀ (H' : Hp) (t p' : Addr) (v' : V) (co' : Col) (n' : Nat), H' t = some (.tup [.ref p', v']) → ¬ X t → ColAt C X H' p' co' → DV X H' v' (colD co') → GoodC co' → co'.beds.length ≤ co.beds.length + 1 → n' ≤ n + 40 → Feed H' d c ns n' → Keep d H H' → Q (.ref t) H'
theorem layC_len (c : Col) (rock : Str) (lv : Int) : (layC c rock lv).beds.length ≤ c.beds.length + 1 := by
  unfold layC
  by_cases h : 0 < lv - topC c
  · rw [if_pos h]; exact layB_len _ _ _
  · rw [if_neg h]; omega
theorem cutC_len (c : Col) (name : Str) (lv : Int) : (cutC c name lv).beds.length ≤ c.beds.length + 1 := by
  unfold cutC
  by_cases h : topC c < lv
  · rw [if_pos h]; omega
  · rw [if_neg h]
    by_cases h2 : lv ≤ c.foot
    · rw [if_pos h2]; show 0 ≤ _; omega
    · rw [if_neg h2]; have := cutB_len (name := name) (lv := lv) c.foot c.beds; show (cutB _ _ _ _).length ≤ _; omega
theorem scNext : FnScope ["_law_feed_here", "_law_pool_here", "_law_one", "_law_plain", "_law_way", "_law_stone", "_law_goal", "_law_by"] ["_law_feed_here", "_law_pool_here", "_law_one", "_law_plain"] (defScope sNext) := ⟨rfl, rfl, rfl, by decide +kernel, rfl, by decide +kernel, by decide +kernel⟩
set_option maxHeartbeats 4000000 in
theorem ok_next {f fD fP fLV fHE fNE fTP fLD fCO : Addr} {fd fdD fdP fdLV fdHE fdNE fdTP fdLD fdCO : FuncData} (F : Fun K "_law_next" "_law_next" sNext f fd) (T : Txt mg) (C : ColF K mg) (D0 : Defs K mg) (D : DefAt K mg "_law_draw" sDraw ["_law_feed_here", "_law_many"] fD fdD) (DP : DefAt K mg "_law_pick" sPick ["_law_feed_here", "_law_options"] fP fdP)
    (DLV : DefAt K mg "_law_level" sLevel ["_law_feed_here"] fLV fdLV) (DHE : DefAt K mg "_law_heights" sHeights ["_law_column_here"] fHE fdHE) (DNE : DefAt K mg "_law_near" sNear ["_law_feed_here", "_law_column_here"] fNE fdNE) (DTP : DefAt K mg "_law_top" sTop ["_law_column_here"] fTP fdTP) (DLD : DefAt K mg "_law_laid" sLaid ["_law_column_here", "_law_rock", "_law_level_here"] fLD fdLD) (DCO : DefAt K mg "_law_cut_off" sCutOff ["_law_column_here", "_law_name", "_law_level_here"] fCO fdCO) :
    FnOk P w K mg base CX0 8 f fd ["_law_feed_here", "_law_pool_here", "_law_one", "_law_plain"] (spNext C.C) := by
  have GmLaid := ok_laid (P := P) (w := w) (base := base) C T D0
  have GmCut := ok_cut (P := P) (w := w) (base := base) C T D0
  have GmTurned := ok_turned (P := P) (w := w) (base := base) C T D0
  have GmLifted := ok_lifted (P := P) (w := w) (base := base) C T D0
  have GD := ok_draw (P := P) (w := w) (K := K) (base := base) D.F T
  have GPl := ok_pickL (P := P) (w := w) (base := base) DP.F T D
  have GNE := ok_near (P := P) (w := w) (base := base) DNE.F T D DP DLV DHE
  have GLD := ok_laidP (P := P) (w := w) (base := base) DLD.F T DTP
  have GCO := ok_cutP (P := P) (w := w) (base := base) DCO.F T DTP
  refine F.ok scNext (fun vs H Q E h => ?_) (fun cdv A outer s H vs Q E hr h => ?_)
  · obtain ⟨d, c, ns, n, pl, p, zs, v, co, X, rfl, _⟩ := h
    rfl
  · obtain ⟨d, c, ns, n, pl, p, zs, v, co, X, rfl, FD, hn, hpl, hz0, hz1, hzw, CA, dv, G, hl, hXd, hX, q⟩ := h
    have nd := scNext.nd
    refine ⟨_, (pss_cons (ps_par3 (i := 4) (j := 5) (l := 6) (by rfl) nd rfl rfl rfl (by decide) (by decide) (by decide) rfl rfl rfl (pa_cons (pe_call GD (hr.mono (by decide)) (by rfl) D.M D.F.kp D.B .nil pass0 (pa_cons (pv 0) (pa_cons pe_int pa_nil))) (pa_cons (pe_call GPl (hr.mono (by decide)) (by rfl) DP.M DP.F.kp DP.B .nil pass0 (pa_cons (pv 0) (pa_cons (pv 1) pa_nil))) (pa_cons (pe_call GNE (hr.mono (by decide)) (by rfl) DNE.M DNE.F.kp DNE.B .nil pass0 (pa_cons (pv 0) (pa_cons (pv 3) pa_nil))) pa_nil))) (by rfl))
    (pss_cons (ps_if (pt_cmpR op_lt (pv 4) pe_int (nomark _))
      (pss_one (ps_ret (pe_tup (pa_cons (pe_meth (pv 2) C.cl C.mLaid GmLaid (hr.mono (by decide)) C.bLaid .nil pass0 (pa_cons (pv 5) (pa_cons (pv 6) pa_nil))) (pa_cons (pe_call GLD (hr.mono (by decide)) (by rfl) DLD.M DLD.F.kp DLD.B .nil pass0 (pa_cons (pv 3) (pa_cons (pv 5) (pa_cons (pv 6) pa_nil)))) pa_nil)))))
      pss_nil)
    (pss_cons (ps_if (pt_cmpR op_lt (pv 4) pe_int (nomark _))
      (pss_one (ps_ret (pe_tup (pa_cons (pe_meth (pv 2) C.cl C.mCut GmCut (hr.mono (by decide)) C.bCut .nil pass0 (pa_cons (pv 5) (pa_cons (pv 6) pa_nil))) (pa_cons (pe_call GCO (hr.mono (by decide)) (by rfl) DCO.M DCO.F.kp DCO.B .nil pass0 (pa_cons (pv 3) (pa_cons (pv 5) (pa_cons (pv 6) pa_nil)))) pa_nil)))))
      pss_nil)
    (pss_cons (ps_if (pt_cmpR op_eq (pv 4) pe_int (nomark _))
      (pss_one (ps_ret (pe_tup (pa_cons (pe_meth (pv 2) C.cl C.mTurned GmTurned (hr.mono (by decide)) C.bTurned .nil pass0 (pa_cons (pv 5) (pa_cons (pv 6) pa_nil))) (pa_cons (pe_tup (pa_cons (pv 5) (pa_cons (pv 6) (pa_cons pe_non (pa_cons (pe_lst pa_nil) pa_nil))))) pa_nil)))))
      pss_nil)
    (pss_cons (ps_set (i := 7) nd rfl (.inl rfl) (pe_op op_sub (pe_call GD (hr.mono (by decide)) (by rfl) D.M D.F.kp D.B .nil pass0 (pa_cons (pv 0) (pa_cons pe_int pa_nil))) pe_int))
    (pss_one (ps_ret (pe_tup (pa_cons (pe_meth (pv 2) C.cl C.mLifted GmLifted (hr.mono (by decide)) C.bLifted .nil pass0 (pa_cons (pv 7) pa_nil)) (pa_cons (pe_tup (pa_cons (pe_ix ix_tup (pv 3) pe_int (fun _ _ => rfl)) (pa_cons (pe_op op_add (pe_ix ix_tup (pv 3) pe_int (fun _ _ => rfl)) (pv 7)) (pa_cons (pe_ix ix_tup (pv 3) pe_int (fun _ _ => rfl)) (pa_cons (pe_ix ix_tup (pv 3) pe_int (fun _ _ => rfl)) pa_nil))))) pa_nil)))))))))), ?_⟩
    -- way, stone, goal
    refine ⟨_, rfl, d, c, ns, n, 8, rfl, FD, by omega, by decide, by decide, fun way H1 n1 _ _ hn1 F1 K1 => ?_⟩
    have hpl1 := FD.kl K1 hpl
    refine ⟨_, rfl, _, rfl, d, c, ns, n1, pl, _, rfl, F1, by omega, hpl1, (by rw [List.length_map]; exact hz0), (by rw [List.length_map]; omega), fun x H2 n2 hx hn2 F2 K2 => ?_⟩
    obtain ⟨stone, hs, rfl⟩ := pick_str hx
    have hst := hzw stone hs
    have K12 := K1.trans K2
    have kd : ∀ {P Q : Hp}, Keep d P Q → ∀ b o, ¬ X b → P b = some o → Q b = some o ∧ ¬ X b := fun k b o nb e => ⟨k _ _ (fun z => nb (z ▸ hXd)) e, nb⟩
    have ks : ∀ {P Q : Hp}, Same P Q → ∀ b o, ¬ X b → P b = some o → Q b = some o ∧ ¬ X b := fun k b o nb e => ⟨k _ _ e, nb⟩
    refine ⟨_, rfl, _, rfl, d, c, ns, n2, v, co, X, rfl, F2, by omega, dv.keep (kd K12), by omega, fun g H3 n3 hn3 F3 K3 => ⟨_, _, _, rfl, ?_⟩⟩
    have K13 := K12.trans K3
    have A3 := CA.keep (kd K13)
    have dv3 := dv.keep (kd K13)
    have hX3 : ∀ z, X z → Old H3 z := fun z hz => Old.mono (X := fun _ => True) K13 F3.old (hX z hz)
    have fin : ∀ (H4 : Hp) (n4 : Nat) (M : Hp) (p' : Addr) (v' : V) (co' : Col), Feed H4 d c ns n4 → Keep d H H4 → (∀ z, X z → Old H4 z) → n4 ≤ n + 39 → Same H4 M → ColAt C.C X M p' co' → DV X M v' (colD co') → GoodC co' → co'.beds.length ≤ co.beds.length + 1 → ∀ t, M t = none → Q (.ref t) (upd M t (.tup [.ref p', v'])) := by
      intro H4 n4 M p' v' co' F4 K4 hX4 hn4 sM A' dv' G' hl' t nt
      have st := new_same (o := .tup [.ref p', v']) nt
      exact q _ t p' v' co' n4 upd_same (fun z => same_old sM (hX4 t z) nt) (A'.keep (ks st)) (dv'.keep (ks st)) G' hl' (by omega) ((F4.same sM).same st) (K4.trans ((kp_of sM).trans (kp_of st)))
    have oX : ∀ {P M : Hp}, (∀ z, X z → Old P z) → ∀ b o, ¬ Old P b → M b = some o → M b = some o ∧ ¬ X b := fun h b o nb e => ⟨e, fun z => nb (h b z)⟩
    obtain ⟨⟨dx, b, xs, hp, _⟩, _⟩ := id A3
    refine ⟨_, rfl, _, _, rfl, rfl, _, rfl, ite2 (fun _ => ?_) (fun _ => ?_)⟩
    · refine ⟨_, rfl, p, dx, _, rfl, hp, cF_no (by decide +kernel) (by decide +kernel) (by decide +kernel) (by decide +kernel), _, rfl, _, rfl, p, co, X, stone, g, rfl, A3, G, by omega, hst, fun M1 p1 B1 t1 => ?_⟩
      refine ⟨_, rfl, _, rfl, _, rfl, v, co, X, stone, g, rfl, dv3.keep (ks t1), G, by omega, hst, fun z hz => same_old t1 (hX3 z hz), fun M2 v2 dv2 t2 => ⟨(by show 2 ≤ sizeLine; decide), ?_⟩⟩
      exact fin H3 n3 M2 p1 v2 _ F3 K13 hX3 (by omega) (t1.trans t2) ((B1.keep (oX hX3)).keep (ks t2)) dv2 (good_layC G hst) (layC_len _ _ _)
    refine ⟨_, rfl, _, _, rfl, rfl, _, rfl, ite2 (fun _ => ?_) (fun _ => ?_)⟩
    · refine ⟨_, rfl, p, dx, _, rfl, hp, cF_no (by decide +kernel) (by decide +kernel) (by decide +kernel) (by decide +kernel), _, rfl, _, rfl, p, co, X, stone, g, rfl, A3, G, by omega, hst, fun M1 p1 B1 t1 => ?_⟩
      refine ⟨_, rfl, _, rfl, _, rfl, v, co, X, stone, g, rfl, dv3.keep (ks t1), G, by omega, hst, fun z hz => same_old t1 (hX3 z hz), fun M2 v2 dv2 t2 => ⟨(by show 2 ≤ sizeLine; decide), ?_⟩⟩
      exact fin H3 n3 M2 p1 v2 _ F3 K13 hX3 (by omega) (t1.trans t2) ((B1.keep (oX hX3)).keep (ks t2)) dv2 (good_cutC G hst) (cutC_len _ _ _)
    refine ⟨_, rfl, rfl, _, rfl, ite2 (fun _ => ?_) (fun _ => ?_)⟩
    · refine ⟨_, rfl, p, dx, _, rfl, hp, cF_no (by decide +kernel) (by decide +kernel) (by decide +kernel) (by decide +kernel), _, rfl, _, rfl, p, stone, g, rfl, hst, fun M1 p1 B1 t1 => ?_⟩
      refine ⟨_, rfl, _, rfl, Nat.zero_le _, fun l3 nl3 => ⟨(by show 4 ≤ sizeLine; decide), fun p4 np4 => ⟨(by show 2 ≤ sizeLine; decide), ?_⟩⟩⟩
      have t3 := new_same (o := .lst []) nl3
      have hl3 : (upd M1 l3 (.lst [])) l3 = some (.lst []) := upd_same
      have t4 := new_same (o := .tup [.str stone, .int g, .non, .ref l3]) np4
      have nx3 : ¬ X l3 := fun z => same_old t1 (hX3 l3 z) nl3
      have nx4 : ¬ X p4 := fun z => same_old (t1.trans t3) (hX3 p4 z) np4
      exact fin H3 n3 _ p1 _ ⟨some stone, g, none, []⟩ F3 K13 hX3 (by omega) ((t1.trans t3).trans t4) ((B1.keep (oX hX3)).keep (ks (t3.trans t4))) (dv_col (c := ⟨some stone, g, none, []⟩) nx4 upd_same nx3 (t4 _ _ hl3) .nil) ⟨(fun z e => by cases e; exact hst), (fun z e => nomatch e), ⟨(fun b hb => nomatch hb), trivial⟩⟩ (Nat.zero_le _)
    -- by
    refine ⟨_, rfl, d, c, ns, n3, 9, rfl, F3, by omega, by decide, by decide, fun r H4 n4 _ _ hn4 F4 K4 => ⟨_, _, rfl, rfl, ?_⟩⟩
    have K14 := K13.trans K4
    have A4 := A3.keep (kd K4)
    have dv4 := dv3.keep (kd K4)
    have hX4 : ∀ z, X z → Old H4 z := fun z hz => Old.mono (X := fun _ => True) K14 F4.old (hX z hz)
    have hp4 := K4 _ _ (fun z => A3.np (by rw [z]; exact hXd)) hp
    refine ⟨_, rfl, p, dx, _, rfl, hp4, cF_no (by decide +kernel) (by decide +kernel) (by decide +kernel) (by decide +kernel), _, rfl, p, co, X, r - 4, rfl, A4, G, by omega, fun M1 p1 B1 t1 => ?_⟩
    have dv5 := dv4.keep (ks t1)
    obtain ⟨a8, l8, xs8, ev, na8, ha8, nl8, hl8, S8⟩ := col_inv dv5
    refine ⟨_, rfl, a8, _, 0, _, ev, rfl, .inl (.inl ha8), rfl, _, rfl, a8, _, 1, .int co.foot, ev, rfl, .inl (.inl ha8), rfl, _, rfl, _, _, rfl, rfl, _, rfl, a8, _, 2, _, ev, rfl, .inl (.inl ha8), rfl, _, rfl, a8, _, 3, _, ev, rfl, .inl (.inl ha8), rfl, (by show 4 ≤ sizeLine; decide), fun p9 np9 => ⟨(by show 2 ≤ sizeLine; decide), ?_⟩⟩
    have t9 := new_same (o := .tup [oV co.root, .int (co.foot + (r - 4)), oV co.cap, .ref l8]) np9
    have nx9 : ¬ X p9 := fun z => same_old t1 (hX4 p9 z) np9
    exact fin H4 n4 _ p1 _ ⟨co.root, co.foot + (r - 4), co.cap, co.beds⟩ F4 K14 hX4 (by omega) (t1.trans t9) ((B1.keep (oX hX4)).keep (ks t9)) (dv_col (c := ⟨co.root, co.foot + (r - 4), co.cap, co.beds⟩) nx9 upd_same nl8 (t9 _ _ hl8) (S8.keep (ks t9))) ⟨G.root, G.cap, G.beds⟩ (by show co.beds.length ≤ _; omega)
/-! ### the law -/
structure LDefs (K : PySem.W.Frag) (mg : Str → Option Value) where
  fF : Addr
  fdF : FuncData
  DF : DefAt K mg "_law_feed" sFeed ["_law_script"] fF fdF
  fD : Addr
  fdD : FuncData
  D : DefAt K mg "_law_draw" sDraw ["_law_feed_here", "_law_many"] fD fdD
  fP : Addr
  fdP : FuncData
  DP : DefAt K mg "_law_pick" sPick ["_law_feed_here", "_law_options"] fP fdP
  fNM : Addr
  fdNM : FuncData
  DNM : DefAt K mg "_law_names" sNames ["_law_feed_here", "_law_many"] fNM fdNM
  fLV : Addr
  fdLV : FuncData
  DLV : DefAt K mg "_law_level" sLevel ["_law_feed_here"] fLV fdLV
  fTP : Addr
  fdTP : FuncData
  DTP : DefAt K mg "_law_top" sTop ["_law_column_here"] fTP fdTP
  fLD : Addr
  fdLD : FuncData
  DLD : DefAt K mg "_law_laid" sLaid ["_law_column_here", "_law_rock", "_law_level_here"] fLD fdLD
  fCO : Addr
  fdCO : FuncData
  DCO : DefAt K mg "_law_cut_off" sCutOff ["_law_column_here", "_law_name", "_law_level_here"] fCO fdCO
  fPO : Addr
  fdPO : FuncData
  DPO : DefAt K mg "_law_pool" sPool ["_law_feed_here"] fPO fdPO
  fLA : Addr
  fdLA : FuncData
  DLA : DefAt K mg "_law_layers" sLayers ["_law_feed_here", "_law_pool_here", "_law_most"] fLA fdLA
  fCL : Addr
  fdCL : FuncData
  DCL : DefAt K mg "_law_column" sColumn ["_law_feed_here", "_law_pool_here", "_law_most"] fCL fdCL
  fBU : Addr
  fdBU : FuncData
  DBU : DefAt K mg "_law_built" sBuilt ["_law_column_here"] fBU fdBU
  fTC : Addr
  fdTC : FuncData
  DTC : DefAt K mg "_law_told_column" sToldColumn ["_law_one"] fTC fdTC
  fHE : Addr
  fdHE : FuncData
  DHE : DefAt K mg "_law_heights" sHeights ["_law_column_here"] fHE fdHE
  fNE : Addr
  fdNE : FuncData
  DNE : DefAt K mg "_law_near" sNear ["_law_feed_here", "_law_column_here"] fNE fdNE
  fNX : Addr
  fdNX : FuncData
  DNX : DefAt K mg "_law_next" sNext ["_law_feed_here", "_law_pool_here", "_law_one", "_law_plain"] fNX fdNX
theorem eqv_col {c : Col} (G : GoodC c) : PyData.eqv (colD c) (colD c) = true := SeqAt.eqv_refl _ (SeqAt.canLay_of_shaped (shaped_col G).1)
/-- a pair that was kept: a column and what it was -/
def Ent (C : Addr) (X : Addr → Prop) (H : Hp) (y : V) : Prop := ∃ (t p : Addr) (v : V) (c : Col), y = .ref t ∧ ¬ X t ∧ H t = some (.tup [.ref p, v]) ∧ ColAt C X H p c ∧ DV X H v (colD c) ∧ GoodC c
theorem Ent.keep {C : Addr} {X : Addr → Prop} {H H' : Hp} {y : V} (K : ∀ b o, ¬ X b → H b = some o → H' b = some o ∧ ¬ X b) (e : Ent C X H y) : Ent C X H' y := by
  obtain ⟨t, p, v, c, rfl, h1, h2, h3, h4, h5⟩ := e
  exact ⟨t, p, v, c, rfl, h1, (K _ _ h1 h2).1, h3.keep K, h4.keep K, h5⟩
theorem scLaw : FnScope ["_law_script", "_law_feed_here", "_law_turn", "_law_pool_here", "_law_plain", "_law_one", "_law_passed", "_law_again", "_law_beds", "_law_low", "_law_high", "_law_elder", "_law_due"] ["_law_script"] (defScope sLaw) := ⟨rfl, rfl, rfl, by decide +kernel, rfl, by decide +kernel, by decide +kernel⟩
def spLaw (K : PySem.W.Frag) : Sp := fun vs H Q _ => ∃ (a : Addr) (ns : List Int), vs = [.ref a] ∧ SqL K H a (ns.map V.int) ∧ ns.length ≤ 63 ∧ ∀ H', Q (.bl true) H'
set_option maxHeartbeats 8000000 in
theorem ok_law {f : Addr} {fd : FuncData} (F : Fun K "law" "law" sLaw f fd) (T : Txt mg) (C : ColF K mg) (C2 : ColG K mg C) (D0 : Defs K mg) (L : LDefs K mg) : FnOk P w K mg base CX0 9 f fd ["_law_script"] (spLaw K) := by
  have GpTop := ok_top (P := P) (w := w) (base := base) C T
  have GEq := ok_eqC (P := P) (w := w) (base := base) C C2 T
  have GLen := ok_lenC (P := P) (w := w) (base := base) C C2 T
  obtain ⟨fF, fdF, DF, fD, fdD, D, fP, fdP, DP, fNM, fdNM, DNM, fLV, fdLV, DLV, fTP, fdTP, DTP, fLD, fdLD, DLD, fCO, fdCO, DCO, fPO, fdPO, DPO, fLA, fdLA, DLA, fCL, fdCL, DCL, fBU, fdBU, DBU, fTC, fdTC, DTC, fHE, fdHE, DHE, fNE, fdNE, DNE, fNX, fdNX, DNX⟩ := L
  have GF := ok_feed (P := P) (w := w) (base := base) DF.F T
  have GD := ok_draw (P := P) (w := w) (K := K) (base := base) D.F T
  have GTP := ok_topP (P := P) (w := w) (base := base) DTP.F T
  have GPO := ok_pool (P := P) (w := w) (base := base) DPO.F T D DP DNM
  have GCL := ok_column (P := P) (w := w) (base := base) DCL.F T D DP DLV DLA
  have GBU := ok_built (P := P) (w := w) (base := base) DBU.F T C D0
  have GTC := ok_told (P := P) (w := w) (base := base) DTC.F T C
  have GNX := ok_next (P := P) (w := w) (base := base) DNX.F T C D0 D DP DLV DHE DNE DTP DLD DCO
  refine F.ok scLaw (fun vs H Q E h => ?_) (fun cdv A outer s H vs Q E hr h => ?_)
  · obtain ⟨a, ns, rfl, _⟩ := h
    rfl
  · obtain ⟨a, ns, rfl, hS, hl, q⟩ := h
    have hu := hu_of hr
    have nd := scLaw.nd
    refine ⟨_, (pss_cons (ps_set (i := 1) nd rfl (.inl rfl) (pe_call GF (hr.mono (by decide)) (by rfl) DF.M DF.F.kp DF.B .nil pass0 (pa_cons (pv 0) pa_nil)))
    (pss_cons (ps_for PassesOwn.never rfl (pi_range1 (by rfl) T.range (pa_cons (pe_op op_add pe_int (pe_callB (call_min2 rfl) (by rfl) T.min (by decide +kernel) (pa_cons pe_int (pa_cons (pe_callB call_len_seq (by rfl) T.len (by decide +kernel) (pa_cons (pv 0) pa_nil)) pa_nil)))) pa_nil)) (pg_name (i := 2) nd rfl (.inl rfl))
      (pss_cons (ps_set (i := 3) nd rfl (.inl rfl) (pe_call GPO (hr.mono (by decide)) (by rfl) DPO.M DPO.F.kp DPO.B .nil pass0 (pa_cons (pv 1) pa_nil)))
    (pss_cons (ps_set (i := 4) nd rfl (.inl rfl) (pe_call GCL (hr.mono (by decide)) (by rfl) DCL.M DCL.F.kp DCL.B .nil pass0 (pa_cons (pv 1) (pa_cons (pv 3) (pa_cons pe_int pa_nil)))))
    (pss_cons (ps_par (i := 5) (j := 6) (by rfl) nd rfl rfl (by decide) rfl rfl (pa_cons (pe_call GBU (hr.mono (by decide)) (by rfl) DBU.M DBU.F.kp DBU.B .nil pass0 (pa_cons (pv 4) pa_nil)) (pa_cons (pe_lst pa_nil) pa_nil)) (by rfl))
    (pss_cons (ps_for PassesOwn.never rfl (pi_range1 (by rfl) T.range (pa_cons (pe_op op_add pe_int (pe_call GD (hr.mono (by decide)) (by rfl) D.M D.F.kp D.B .nil pass0 (pa_cons (pv 1) (pa_cons pe_int pa_nil)))) pa_nil)) (pg_name (i := 7) nd rfl (.inl rfl))
      (pss_cons (ps_expr (pe_bm PySem.F.plainAttrs_list PySem.F.slot_list_append PySem.F.type_list_append mt_append (pv 6) (pa_cons (pe_tup (pa_cons (pv 5) (pa_cons (pv 4) pa_nil))) pa_nil)))
    (pss_cons (ps_asg (pe_call GNX (hr.mono (by decide)) (by rfl) DNX.M DNX.F.kp DNX.B .nil pass0 (pa_cons (pv 1) (pa_cons (pv 3) (pa_cons (pv 5) (pa_cons (pv 4) pa_nil))))) (pg_tup rfl (pgs_cons (pg_name (i := 5) nd rfl (.inl rfl)) (pgs_cons (pg_name (i := 4) nd rfl (.inl rfl)) pgs_nil))))
    (C8.pss_cut (ps_if (PW.pt (pw_or (pt_cmpR (op_neD hr.units) (pe_call GTC (hr.mono (by decide)) (by rfl) DTC.M DTC.F.kp DTC.B .nil pass0 (pa_cons (pv 5) pa_nil)) (pv 4) (nomark _)) (pw_or (pt_cmpR op_ne (pe_prop (pv 5) C.cl C.pTop GpTop (hr.mono (by decide)) C.bTop .nil pass0 rfl) (pe_call GTP (hr.mono (by decide)) (by rfl) DTP.M DTP.F.kp DTP.B .nil pass0 (pa_cons (pv 4) pa_nil)) (nomark _)) (pw_or1 (pt_cmpR op_ne (pe_callB (call_lenOwn GLen (hr.mono (by decide)) C2.hLen C2.fLen C2.bLen pass0) (by rfl) T.len (by decide +kernel) (pa_cons (pv 5) pa_nil)) (pe_callB call_len_seq (by rfl) T.len (by decide +kernel) (pa_cons (pe_ix ix_tup (pv 4) pe_int (fun _ _ => rfl)) pa_nil)) (nomark _))))))
      (pss_one (ps_ret pe_bl))
      pss_nil)
    (pss_cons (ps_set (i := 8) nd rfl (.inl rfl) (pe_ix ix_tup (pv 4) pe_int (fun _ _ => rfl)))
    (pss_cons (ps_if (pt_cmpR (op_neD hr.units) (pe_lc (own := [("_law_low", 9), ("_law_high", 10)]) (g := gTup K 2 (gCons (gName 9) (gCons (gName 10) gNil))) (by rfl) nd (pi_zip (by rfl) T.zip (pa_cons (pv 8) (pa_cons (pe_slice sl_list (pv 8) (po_some pe_int) po_none) pa_nil))) (blkOk_by (own := [("_law_low", 9), ("_law_high", 10)]) (N := ["_law_script", "_law_feed_here", "_law_turn", "_law_pool_here", "_law_plain", "_law_one", "_law_passed", "_law_again", "_law_beds", "_law_low", "_law_high", "_law_elder", "_law_due"]) (sc := defScope sLaw) (by decide +kernel)) (fun _ _ _ _ _ => (pg_tup rfl (pgs_cons (pg_name (i := 9) nd rfl (.inl rfl) (.inr rfl)) (pgs_cons (pg_name (i := 10) nd rfl (.inl rfl) (.inr rfl)) pgs_nil)))) (fun _ _ _ _ _ => (pts_one (PW.pt (pw_and (pt_cmpR op_eq (pe_ix (show IxR _ (rIxT K) from ix_tup) (pv 9) pe_int (fun _ _ => rfl)) (pe_ix (show IxR _ (rIxT K) from ix_tup) (pv 10) pe_int (fun _ _ => rfl)) (nomark _)) (pw_and1 (pt_cmpR op_isN (pe_ix (show IxR _ (rIxT K) from ix_tup) (pv 9) pe_int (fun _ _ => rfl)) pe_non (nomark _))))))) (fun _ _ _ _ _ => pe_int)) (pe_lst pa_nil) (nomark _))
      (pss_one (ps_ret pe_bl))
      pss_nil)
    (pss_one (ps_if (pt_cmpR (op_neOwn GEq (hr.mono (by decide)) C2.hNe C2.hEq C2.fEq C2.hObj C2.bEq pass0) (pv 5) (pe_call GBU (hr.mono (by decide)) (by rfl) DBU.M DBU.F.kp DBU.B .nil pass0 (pa_cons (pv 4) pa_nil)) (nomark _))
      (pss_one (ps_ret pe_bl))
      pss_nil))))))))
    (pss_one (ps_if (pt_cmpR (op_neD hr.units) (pe_lc (own := [("_law_elder", 11), ("_law_due", 12)]) (g := gTup K 2 (gCons (gName 11) (gCons (gName 12) gNil))) (by rfl) nd (pi_list (pv 6)) (blkOk_by (own := [("_law_elder", 11), ("_law_due", 12)]) (N := ["_law_script", "_law_feed_here", "_law_turn", "_law_pool_here", "_law_plain", "_law_one", "_law_passed", "_law_again", "_law_beds", "_law_low", "_law_high", "_law_elder", "_law_due"]) (sc := defScope sLaw) (by decide +kernel)) (fun _ _ _ _ _ => (pg_tup rfl (pgs_cons (pg_name (i := 11) nd rfl (.inl rfl) (.inr rfl)) (pgs_cons (pg_name (i := 12) nd rfl (.inl rfl) (.inr rfl)) pgs_nil)))) (fun _ _ _ _ _ => (pts_one (pt_cmpR (show OpR _ _ (rNeD K) from op_neD hr.units) (pe_call GTC (hr.mono (by decide)) (by rfl) DTC.M DTC.F.kp DTC.B .nil pass0 (pa_cons (pv 11) pa_nil)) (pv 12) (nomark _)))) (fun _ _ _ _ _ => pe_int)) (pe_lst pa_nil) (nomark _))
      (pss_one (ps_ret pe_bl))
      pss_nil)))))))
    (pss_one (ps_ret pe_bl)))), ?_⟩
    refine ⟨.ref a, rfl, a, ns, rfl, hS, hl, fun d c H1 F1 S1 nd1 => ?_⟩
    have hA : SqL K H1 a (ns.map V.int) := S1.seq hS
    refine ⟨.ref a, rfl, a, _, rfl, .inl hA, _, _, rfl, _, _, rfl, rfl, ?_⟩
    have hb : ∃ m : Nat, m ≤ 5 ∧ (2 : Int) + (if ((ns.map V.int).length : Int) < 3 then ((ns.map V.int).length : Int) else 3) = (m : Int) := by
      by_cases h : ((ns.map V.int).length : Int) < 3
      · rw [if_pos h]
        exact ⟨2 + (ns.map V.int).length, by omega, by omega⟩
      · rw [if_neg h]
        exact ⟨5, by omega, rfl⟩
    obtain ⟨m, hm, em⟩ := hb
    refine ⟨m, em ▸ rfl, by omega, by omega, ?_⟩
    refine for_range (lo := 0) (n := m) (fun i σ Hi => ∃ (n' : Nat) (y2 y3 y4 y5 y6 y7 y8 y9 y10 y11 y12 : Option V), σ = [some (.ref a), some (.ref d), y2, y3, y4, y5, y6, y7, y8, y9, y10, y11, y12] ∧ n' ≤ i * 3000 ∧ Feed Hi d c ns n') ⟨0, none, none, none, none, none, none, none, none, none, none, none, rfl, by omega, F1⟩ ?_ ?_
    · rintro i σ Hi hi ⟨n0, y2, y3, y4, y5, y6, y7, y8, y9, y10, y11, y12, rfl, hn0, Fi⟩
      -- pool, plain
      refine ⟨_, rfl, d, c, ns, n0, rfl, Fi, by omega, fun pl zs H2 n2 hpl hz0 hz1 hzw _ hn2 F2 K2 => ?_⟩
      refine ⟨_, rfl, _, rfl, d, c, ns, n2, 3, pl, zs, rfl, F2, by omega, by omega, hpl, hz0, by omega, hzw, fun H5 v0 co0 n5 dv5 G0 hbl0 hn5 F5 K5 => ?_⟩
      have dvX : DV (fun z => z = d) H5 v0 (colD co0) := dv5.keep fun b o nb e => ⟨e, fun z => nb (z ▸ F2.old)⟩
      have hpl5 := F2.kl K5 hpl
      -- one, passed
      refine ⟨_, rfl, v0, co0, _, rfl, dvX, G0, by omega, fun H6 p0 A6 s6 => ?_⟩
      refine ⟨Nat.zero_le _, fun k nk => ⟨_, _, rfl, ?_⟩⟩
      have F6 := F5.same s6
      have nkd := F6.nd nk
      have nkc := F6.nc nk
      have s7 : Same H6 (upd H6 k (.lst [])) := new_same nk
      have hk7 : (upd H6 k (.lst [])) k = some (.lst []) := upd_same
      have X6 : ∀ z, (z = d ∨ z = k) → ∀ o, H6 z = some o → z = d := fun z hz o e => hz.elim id fun hz => by rw [hz, nk] at e; cases e
      have plk : pl ≠ k := ne_of_none (s6 _ _ hpl5) nk
      have A7 : ColAt C.C (fun z => z = d ∨ z = k) (upd H6 k (.lst [])) p0 co0 := A6.keep fun b o nb e => ⟨s7 _ _ e, fun z => nb ((X6 b z o e) ▸ F5.old)⟩
      have dv7 : DV (fun z => z = d ∨ z = k) (upd H6 k (.lst [])) v0 (colD co0) := dvX.keep fun b o nb e => ⟨s7 _ _ (s6 _ _ e), fun z => nb (X6 b z o (s6 _ _ e))⟩
      have hpl7 := s7 _ _ (s6 _ _ hpl5)
      have F7 := F6.same s7
      have n50 : n5 ≤ i * 3000 + 100 := by omega
      clear A6 dvX dv5 hpl5 hpl F6 X6 s6 K5 F5 F2 K2 Fi
      generalize upd H6 k (.lst []) = H7 at s7 hk7 A7 dv7 hpl7 F7 ⊢
      -- for again in range(1 + draw(feed, 30))
      refine ⟨_, rfl, d, c, ns, n5, 30, rfl, F7, by omega, by decide, by decide, fun r H8 n8 r0 r1 hn8 F8 K8 => ⟨_, _, rfl, rfl, 1 + r, rfl, by omega, by omega, ?_⟩⟩
      have kdX : ∀ {P Q : Hp}, Keep d P Q → ∀ b o, ¬ (b = d ∨ b = k) → P b = some o → Q b = some o ∧ ¬ (b = d ∨ b = k) := fun kk b o nb e => ⟨kk _ _ (fun z => nb (.inl z)) e, nb⟩
      have ksX : ∀ {P Q : Hp}, Same P Q → ∀ b o, ¬ (b = d ∨ b = k) → P b = some o → Q b = some o ∧ ¬ (b = d ∨ b = k) := fun kk b o nb e => ⟨kk _ _ e, nb⟩
      refine for_range (lo := 0) (n := (1 + r).toNat) (fun j σ Hj => ∃ (n' : Nat) (p : Addr) (v : V) (co : Col) (ys : List V) (y7 y8 y9 y10 y11 y12 : Option V), σ = [some (.ref a), some (.ref d), some (.int (0 + (i : Int))), some (.ref pl), some v, some (.ref p), some (.ref k), y7, y8, y9, y10, y11, y12] ∧
          n' ≤ i * 3000 + 101 + 41 * j ∧ Feed Hj d c ns n' ∧ Hj pl = some (.lst (zs.map V.str)) ∧ Hj k = some (.lst ys) ∧ ys.length = j ∧ (∀ y ∈ ys, Ent C.C (fun z => z = d ∨ z = k) Hj y) ∧ ColAt C.C (fun z => z = d ∨ z = k) Hj p co ∧ DV (fun z => z = d ∨ z = k) Hj v (colD co) ∧ GoodC co ∧ co.beds.length ≤ 3 + j)
        ⟨n8, p0, v0, co0, [], _, _, _, _, _, _, rfl, by omega, F8, F7.kl K8 hpl7, K8 _ _ nkd hk7, rfl, (fun y hy => nomatch hy), A7.keep (kdX K8), dv7.keep (kdX K8), G0, by omega⟩ ?_ ?_
      · rintro j σ Hj hj ⟨n', p, v, co, ys, y7, y8, y9, y10, y11, y12, rfl, hn', Fj, hplj, hkj, hyl, Ey, A1, dv1, G, hcl⟩
        have hj30 : j < 31 := by omega
        -- passed.append((one, plain))
        refine ⟨_, rfl, .inl ⟨rfl, _, .inl (.inl hkj)⟩, _, rfl, _, rfl, (by show 2 ≤ sizeLine; decide), fun t nt => ?_⟩
        have st := new_same (o := .tup [.ref p, v]) nt
        have ntk : t ≠ k := fun z => by rw [z, hkj] at nt; cases nt
        have ntd := Fj.nd nt
        refine ⟨k, ys, _, rfl, rfl, st _ _ hkj, small1000 (by omega), ?_⟩
        have ht : (upd Hj t (.tup [.ref p, v])) t = some (.tup [.ref p, v]) := upd_same
        have Ft := Fj.same st
        generalize upd Hj t (.tup [.ref p, v]) = Ht at st ht Ft ⊢
        obtain ⟨U, rU, hU, oU⟩ := pu Ht k
        rw [rU]
        have kU : ∀ o, ∀ b x, ¬ (b = d ∨ b = k) → Hj b = some x → U o b = some x ∧ ¬ (b = d ∨ b = k) := fun o b x nb e => ⟨Eq.trans (oU o b fun z => nb (.inr z)) (st _ _ e), nb⟩
        have FU : ∀ o, Feed (U o) d c ns n' := fun o => by
          obtain ⟨⟨l, l0, e⟩, hc', hl'⟩ := Ft
          exact ⟨⟨l, l0, Eq.trans (oU o d nkd.symm) e⟩, Eq.trans (oU o c nkc.symm) hc', hl'⟩
        have A2 := fun o => A1.keep (kU o)
        have dv2 := fun o => dv1.keep (kU o)
        have hplU : ∀ o, U o pl = some (.lst (zs.map V.str)) := fun o => Eq.trans (oU o pl plk) (st _ _ hplj)
        have EU : ∀ o, ∀ y ∈ ys ++ [.ref t], Ent C.C (fun z => z = d ∨ z = k) (U o) y := fun o y hy => by
          rcases List.mem_append.mp hy with hy | hy
          · exact (Ey y hy).keep (kU o)
          · cases List.mem_singleton.mp hy
            exact ⟨t, p, v, co, rfl, fun z => z.elim ntd ntk, Eq.trans (oU o t ntk) ht, A2 o, dv2 o, G⟩
        -- one, plain = next(..)
        refine ⟨_, rfl, _, rfl, _, rfl, _, rfl, d, c, ns, n', pl, p, zs, v, co, fun z => z = d ∨ z = k, rfl, FU _, by omega, hplU _, hz0, by omega, hzw, A2 _, dv2 _, G, by omega, .inl rfl, fun z hz => hz.elim (fun e => e ▸ (FU _).old) (fun e => e ▸ old_of (hU _)), fun H9 t9 p9 v9 co9 n9 ht9 _ A9 dv9 G9 hl9 hn9 F9 K9 => ?_⟩
        refine ⟨t9, _, rfl, .inl (.inl ht9), rfl, _, _, rfl, _, _, rfl, rfl, ?_⟩
        have E9 : ∀ y ∈ ys ++ [.ref t], Ent C.C (fun z => z = d ∨ z = k) H9 y := fun y hy => (EU _ y hy).keep (kdX K9)
        have hk9 := K9 _ _ nkd (hU _)
        have hpl9 := (FU _).kl K9 (hplU _)
        clear EU hplU dv2 A2 FU kU rU hU oU U Ft ht st K9 Ey A1 dv1 hkj hplj Fj
        obtain ⟨sh1, sh2⟩ := shaped_col G9
        obtain ⟨⟨dx, b, xs, hp, _⟩, _⟩ := id A9
        obtain ⟨a8, l8, xs8, ev, na8, ha8, nl8, hl8, S8⟩ := col_inv dv9
        subst ev
        have hlen8 := beds_len S8
        -- the tests
        refine ⟨fun σ M => Same H9 M ∧ σ = [some (.ref a), some (.ref d), some (.int (0 + (i : Int))), some (.ref pl), some (.ref a8), some (.ref p9), some (.ref k), some (.int (0 + (j : Int))), y8, y9, y10, y11, y12], ?_, ?_⟩
        · refine ⟨_, rfl, p9, co9, _, rfl, A9, fun M1 v1 e1 t1 => ⟨_, rfl, ?_⟩⟩
          refine ⟨_, _, e1.dp sh2, (dv9.keep (ksX t1)).dp sh2, sh1, sh1, _, rfl, ?_⟩
          rw [eqv_col G9]
          refine iteF ⟨_, rfl, p9, dx, _, rfl, t1 _ _ hp, p9, co9, _, rfl, A9.keep (ksX t1), by omega, fun M2 t2 => ?_⟩
          refine ⟨_, rfl, _, co9, _, rfl, dv9.keep (ksX (t1.trans t2)), by omega, fun M3 t3 => ⟨rfl, _, rfl, iteNS rfl ?_⟩⟩
          have t13 := (t1.trans t2).trans t3
          refine ⟨_, rfl, p9, dx, _, rfl, t13 _ _ hp, p9, co9, _, rfl, A9.keep (ksX t13), _, rfl, ⟨by omega, by omega⟩, ?_⟩
          refine ⟨_, rfl, a8, _, 3, _, rfl, rfl, .inl (.inl (t13 _ _ ha8)), rfl, l8, xs8, rfl, .inl (.inl (.inl (t13 _ _ hl8))), rfl, _, rfl, ?_⟩
          rw [hlen8]
          refine iteNS rfl ?_
          exact ⟨t13, rfl⟩
        rintro σ M ⟨tM, rfl⟩
        have A10 := A9.keep (ksX tM)
        have dv10 := dv9.keep (ksX tM)
        have ha10 := tM _ _ ha8
        have hl10 := tM _ _ hl8
        have S10 := S8.keep (ksX tM)
        have hp10 := tM _ _ hp
        -- beds = plain[3]
        refine ⟨_, rfl, a8, _, 3, _, rfl, rfl, .inl (.inl ha10), rfl, ?_⟩
        -- no two neighbours ..
        refine ⟨_, rfl, _, rfl, 1, rfl, l8, xs8, rfl, .inl (.inl hl10), fun p2 np2 => ?_⟩
        rw [cut_one]
        have s3 : Same M (upd M p2 (.lst (xs8.drop 1))) := new_same np2
        have hp2 : (upd M p2 (.lst (xs8.drop 1))) p2 = some (.lst (xs8.drop 1)) := upd_same
        generalize upd M p2 (.lst (xs8.drop 1)) = M3 at s3 hp2 ⊢
        refine ⟨l8, p2, xs8, xs8.drop 1, rfl, .inl (.inl (s3 _ _ hl10)), .inl (.inl hp2), fun D2 nD2 => ?_⟩
        refine lc_it (walk_zip (xs := xs8) (ys := xs8.drop 1) (n := xs8.length - 1) (by rw [List.length_drop]; omega)) (fun _ Mi => Mi D2 = some (.lst []) ∧ ∀ b o, b ≠ D2 → M3 b = some o → Mi b = some o) ⟨upd_same, fun b o nb e => by rw [upd_ne nb]; exact e⟩
          (fun _ Mi _ ⟨_, kk⟩ => ⟨.inl (.inl (kk _ _ (ne_of_none (s3 _ _ hl10) nD2) (s3 _ _ hl10))), .inl (.inl (kk _ _ (ne_of_none hp2 nD2) hp2))⟩) ?_ ?_
        · rintro i1 y Mi Mj hi1 ⟨hD2, kk⟩ ⟨t1, x1, x2, rfl, nt1, rfl, f1, f2⟩
          have f2' : xs8[i1 + 1]? = some x2 := by
            have h : (xs8.drop 1)[i1]? = some x2 := f2
            rwa [List.getElem?_drop, Nat.add_comm] at h
          obtain ⟨b1, a1, hb1, rfl, _, ha1⟩ := beds_get S10 f1
          obtain ⟨b2, a2, hb2, rfl, _, ha2⟩ := beds_get S10 f2'
          have st1 := new_same (o := .tup [.ref a1, .ref a2]) nt1
          have g1 := st1 _ _ (kk _ _ (ne_of_none (s3 _ _ ha1) nD2) (s3 _ _ ha1))
          have g2 := st1 _ _ (kk _ _ (ne_of_none (s3 _ _ ha2) nD2) (s3 _ _ ha2))
          have nm := apart_at G9.beds.apart hb1 hb2
          refine ⟨t1, _, rfl, .inl (.inl upd_same), rfl, _, _, rfl, _, _, rfl, rfl, rfl, ?_⟩
          refine ⟨_, rfl, a1, bedV b1, 0, .str b1.rock, rfl, rfl, .inl (.inl g1), rfl, _, rfl, a2, bedV b2, 0, .str b2.rock, rfl, rfl, .inl (.inl g2), rfl, rfl, _, rfl, ?_⟩
          have out : (upd Mi t1 (.tup [.ref a1, .ref a2])) D2 = some (.lst []) ∧ ∀ b o, b ≠ D2 → M3 b = some o → (upd Mi t1 (.tup [.ref a1, .ref a2])) b = some o := ⟨st1 _ _ hD2, fun b o nb e => st1 _ _ (kk b o nb e)⟩
          refine ite2 (fun h1 => ?_) (fun h1 => ?_)
          · have e1 : b1.rock = b2.rock := V.str.inj (of_decide_eq_true h1)
            refine ⟨_, rfl, a1, bedV b1, 2, oV b1.mark, rfl, rfl, .inl (.inl g1), rfl, rfl, _, rfl, ?_⟩
            cases hmk : b1.mark with
            | none => exact absurd ⟨e1, hmk⟩ nm
            | some z => exact iteF out
          · exact iteF out
        rintro M4 ⟨hD4, k4⟩
        have s04 : Same M M4 := fun b o e => k4 b o (ne_of_none (s3 _ _ e) nD2) (s3 _ _ e)
        refine ⟨Nat.zero_le _, fun p5 np5 => ?_⟩
        have s5 : Same M4 (upd M4 p5 (.lst [])) := new_same np5
        have hp5 : (upd M4 p5 (.lst [])) p5 = some (.lst []) := upd_same
        have hD5 := s5 _ _ hD4
        generalize upd M4 p5 (.lst []) = M5 at s5 hp5 hD5 ⊢
        refine ⟨.list [], .list [], .lst (.inl (.inl hD5)) .nil, .lst (.inl (.inl hp5)) .nil, rfl, rfl, _, rfl, iteF ?_⟩
        have s05 := s04.trans s5
        have A11 := A10.keep (ksX s05)
        have dv11 := dv10.keep (ksX s05)
        -- one != built(plain)
        refine ⟨_, rfl, _, rfl, _, co9, _, rfl, dv11, G9, by omega, fun M6 p6 B6 t6 => ?_⟩
        have A12 := A11.keep (ksX t6)
        obtain ⟨⟨dx6, b6, xs6, hp6, _⟩, _⟩ := id B6
        refine ⟨p9, p6, dx, dx6, _, _, rfl, rfl, t6 _ _ (s05 _ _ hp10), hp6, p9, p6, co9, _, _, rfl, A12, B6, G9, true, rfl, _, rfl, iteF ?_⟩
        have sAll := (tM.trans s05).trans t6
        exact ⟨n9, p9, .ref a8, co9, ys ++ [.ref t], _, _, _, _, _, _, rfl, by omega, F9.same sAll, sAll _ _ hpl9, sAll _ _ hk9, by rw [List.length_append, hyl]; rfl, fun y hy => (E9 y hy).keep (ksX sAll), A12, dv11.keep (ksX t6), G9, by omega⟩
      · rintro σ Hj ⟨n', p, v, co, ys, y7, y8, y9, y10, y11, y12, rfl, hn', Fj, hplj, hkj, hyl, Ey, A1, dv1, G, hcl⟩
        -- the earlier columns stay
        refine ⟨_, rfl, k, rfl, ⟨_, .inl (.inl hkj)⟩, fun D2 nD2 => ?_⟩
        refine lc_list (K := K) (a := k) (xs := ys) (fun _ Mi => Mi D2 = some (.lst []) ∧ ∀ b o, b ≠ D2 → Hj b = some o → Mi b = some o) ⟨upd_same, fun b o nb e => by rw [upd_ne nb]; exact e⟩ (fun _ Mi _ ⟨_, kk⟩ => .inl (.inl (kk _ _ (ne_of_none hkj nD2) hkj))) ?_ ?_
        · rintro i1 y Mi hy ⟨hD2, kk⟩
          have kn : ∀ b o, ¬ (b = d ∨ b = k) → Hj b = some o → Mi b = some o ∧ ¬ (b = d ∨ b = k) := fun b o nb e => ⟨kk b o (ne_of_none e nD2) e, nb⟩
          obtain ⟨t1, p1, v1, c1, rfl, _, ht1, A2, dv2, G2⟩ := (Ey y (List.mem_of_getElem? hy)).keep kn
          obtain ⟨sh1, sh2⟩ := shaped_col G2
          refine ⟨t1, _, rfl, .inl (.inl ht1), rfl, _, _, rfl, _, _, rfl, rfl, rfl, ?_⟩
          refine ⟨_, rfl, p1, c1, _, rfl, A2, fun M1 v2 e2 t2 => ⟨_, rfl, ?_⟩⟩
          refine ⟨_, _, e2.dp sh2, (dv2.keep (ksX t2)).dp sh2, sh1, sh1, _, rfl, ?_⟩
          rw [eqv_col G2]
          exact iteF ⟨t2 _ _ hD2, fun b o nb e => t2 _ _ (kk b o nb e)⟩
        rintro M4 ⟨hD4, k4⟩
        have s04 : Same Hj M4 := fun b o e => k4 b o (ne_of_none e nD2) e
        refine ⟨Nat.zero_le _, fun p5 np5 => ?_⟩
        have s5 : Same M4 (upd M4 p5 (.lst [])) := new_same np5
        refine ⟨.list [], .list [], .lst (.inl (.inl (s5 _ _ hD4))) .nil, .lst (.inl (.inl upd_same)) .nil, rfl, rfl, _, rfl, iteF ?_⟩
        exact ⟨n', _, _, _, _, _, _, _, _, _, _, _, rfl, by omega, Fj.same (s04.trans s5)⟩
    · rintro σ Hi ⟨n', y2, y3, y4, y5, y6, y7, y8, y9, y10, y11, y12, rfl, hn', Fi⟩
      exact q _
end
set_option maxHeartbeats 4000000 in
theorem all_mk {l : PySem.W.OpenLaw} {w : World} {K : PySem.W.Frag} {h : Heap} {mg : Str → Option Value} {fa : Addr} (X : K.In h) (G : h.Ns mainGlobals mg) (hfa : mg "law" = some (.ref fa))
    {f0 f1 f2 f3 f4 f5 f6 f7 f8 f9 f10 f11 f12 f13 f14 f15 f16 f17 f18 f19 f20 f21 f22 f23 f24 aC aT aK aT0 fI pp1 fp1 pp2 fp2 pp3 fp3 pp4 fp4 pp5 fp5 fm1 fm2 fm3 fm4 fm5 fQ fW : Addr}
    {od0 an0 od1 an1 od2 an2 od3 an3 od4 an4 od5 an5 od6 an6 od7 an7 od8 an8 od9 an9 od10 an10 od11 an11 od12 an12 od13 an13 od14 an14 od15 an15 od16 an16 od17 an17 od18 an18 od19 an19 od20 an20 od21 an21 od22 an22 od23 an23 od24 an24 odI anI odT odT0 odp1 anp1 odp2 anp2 odp3 anp3 odp4 anp4 odp5 anp5 odm1 anm1 odm2 anm2 odm3 anm3 odm4 anm4 odm5 anm5 odQ anQ odW anW : Option Addr}
    {sl0 sl1 sl2 sl3 sl4 sl5 sl6 sl7 sl8 sl9 sl10 sl11 sl12 sl13 sl14 sl15 sl16 sl17 sl18 sl19 sl20 sl21 sl22 sl23 sl24 slI slT slT0 slp1 slp2 slp3 slp4 slp5 slm1 slm2 slm3 slm4 slm5 slQ slW : Array (Option Value)}
    {oc0 dc0 pm0 cd0 ct0 kV0 oc1 dc1 pm1 cd1 ct1 kV1 oc2 dc2 pm2 cd2 ct2 kV2 oc3 dc3 pm3 cd3 ct3 kV3 oc4 dc4 pm4 cd4 ct4 kV4 oc5 dc5 pm5 cd5 ct5 kV5 oc6 dc6 pm6 cd6 ct6 kV6 oc7 dc7 pm7 cd7 ct7 kV7 oc8 dc8 pm8 cd8 ct8 kV8 oc9 dc9 pm9 cd9 ct9 kV9 oc10 dc10 pm10 cd10 ct10 kV10 oc11 dc11 pm11 cd11 ct11 kV11 oc12 dc12 pm12 cd12 ct12 kV12 oc13 dc13 pm13 cd13 ct13 kV13 oc14 dc14 pm14 cd14 ct14 kV14 oc15 dc15 pm15 cd15 ct15 kV15 oc16 dc16 pm16 cd16 ct16 kV16 oc17 dc17 pm17 cd17 ct17 kV17 oc18 dc18 pm18 cd18 ct18 kV18 oc19 dc19 pm19 cd19 ct19 kV19 oc20 dc20 pm20 cd20 ct20 kV20 oc21 dc21 pm21 cd21 ct21 kV21 oc22 dc22 pm22 cd22 ct22 kV22 oc23 dc23 pm23 cd23 ct23 kV23 oc24 dc24 pm24 cd24 ct24 kV24 ocI dcI pmI cdI ctI ocT ocp1 dcp1 pmp1 cdp1 ctp1 kVp1 ocp2 dcp2 pmp2 cdp2 ctp2 kVp2 ocp3 dcp3 pmp3 cdp3 ctp3 kVp3 ocp4 dcp4 pmp4 cdp4 ctp4 kVp4 ocp5 dcp5 pmp5 cdp5 ctp5 kVp5 ocm1 dcm1 pmm1 cdm1 ctm1 kVm1 ocm2 dcm2 pmm2 cdm2 ctm2 kVm2 ocm3 dcm3 pmm3 cdm3 ctm3 kVm3 ocm4 dcm4 pmm4 cdm4 ctm4 kVm4 ocm5 dcm5 pmm5 cdm5 ctm5 kVm5 ocQ dcQ pmQ cdQ ctQ kVQ ocW dcW pmW cdW ctW kVW : Value}
    {tN tZ : Tok}
    {rs1 rs2 rs3 rs4 rs5 : List Value}
    {nT nT0 : Nat}
    (a0 : PySem.W.nsIn K mainGlobals "is_name" = some (some (.ref f0)))
    (l0 : K.lookup f0 = some ⟨oc0, od0, .func (PySem.W.fnOf "is_name" "is_name" (defArgs sIsName) (defBody sIsName) (defScope sIsName) .none kV0 dc0 pm0 an0 cd0 ct0), sl0⟩)
    (c0 : PySem.W.codeIn K cd0 "is_name" = true)
    (k0 : PySem.W.keepIn K (.ref f0) = true)
    (a1 : PySem.W.nsIn K mainGlobals "is_level" = some (some (.ref f1)))
    (l1 : K.lookup f1 = some ⟨oc1, od1, .func (PySem.W.fnOf "is_level" "is_level" (defArgs sIsLevel) (defBody sIsLevel) (defScope sIsLevel) .none kV1 dc1 pm1 an1 cd1 ct1), sl1⟩)
    (c1 : PySem.W.codeIn K cd1 "is_level" = true)
    (k1 : PySem.W.keepIn K (.ref f1) = true)
    (a2 : PySem.W.nsIn K mainGlobals "need_name" = some (some (.ref f2)))
    (l2 : K.lookup f2 = some ⟨oc2, od2, .func (PySem.W.fnOf "need_name" "need_name" (defArgs sNeedName) (defBody sNeedName) (defScope sNeedName) .none kV2 dc2 pm2 an2 cd2 ct2), sl2⟩)
    (c2 : PySem.W.codeIn K cd2 "need_name" = true)
    (k2 : PySem.W.keepIn K (.ref f2) = true)
    (a3 : PySem.W.nsIn K mainGlobals "need_level" = some (some (.ref f3)))
    (l3 : K.lookup f3 = some ⟨oc3, od3, .func (PySem.W.fnOf "need_level" "need_level" (defArgs sNeedLevel) (defBody sNeedLevel) (defScope sNeedLevel) .none kV3 dc3 pm3 an3 cd3 ct3), sl3⟩)
    (c3 : PySem.W.codeIn K cd3 "need_level" = true)
    (k3 : PySem.W.keepIn K (.ref f3) = true)
    (a4 : PySem.W.nsIn K mainGlobals "need_name_or_none" = some (some (.ref f4)))
    (l4 : K.lookup f4 = some ⟨oc4, od4, .func (PySem.W.fnOf "need_name_or_none" "need_name_or_none" (defArgs sNeedNameOrNone) (defBody sNeedNameOrNone) (defScope sNeedNameOrNone) .none kV4 dc4 pm4 an4 cd4 ct4), sl4⟩)
    (c4 : PySem.W.codeIn K cd4 "need_name_or_none" = true)
    (k4 : PySem.W.keepIn K (.ref f4) = true)
    (a5 : PySem.W.nsIn K mainGlobals "is_bed" = some (some (.ref f5)))
    (l5 : K.lookup f5 = some ⟨oc5, od5, .func (PySem.W.fnOf "is_bed" "is_bed" (defArgs sIsBed) (defBody sIsBed) (defScope sIsBed) .none kV5 dc5 pm5 an5 cd5 ct5), sl5⟩)
    (c5 : PySem.W.codeIn K cd5 "is_bed" = true)
    (k5 : PySem.W.keepIn K (.ref f5) = true)
    (a6 : PySem.W.nsIn K mainGlobals "merges" = some (some (.ref f6)))
    (l6 : K.lookup f6 = some ⟨oc6, od6, .func (PySem.W.fnOf "merges" "merges" (defArgs sMerges) (defBody sMerges) (defScope sMerges) .none kV6 dc6 pm6 an6 cd6 ct6), sl6⟩)
    (c6 : PySem.W.codeIn K cd6 "merges" = true)
    (k6 : PySem.W.keepIn K (.ref f6) = true)
    (a7 : PySem.W.nsIn K mainGlobals "are_beds" = some (some (.ref f7)))
    (l7 : K.lookup f7 = some ⟨oc7, od7, .func (PySem.W.fnOf "are_beds" "are_beds" (defArgs sAreBeds) (defBody sAreBeds) (defScope sAreBeds) .none kV7 dc7 pm7 an7 cd7 ct7), sl7⟩)
    (c7 : PySem.W.codeIn K cd7 "are_beds" = true)
    (k7 : PySem.W.keepIn K (.ref f7) = true)
    (a8 : PySem.W.nsIn K mainGlobals "_law_feed" = some (some (.ref f8)))
    (l8 : K.lookup f8 = some ⟨oc8, od8, .func (PySem.W.fnOf "_law_feed" "_law_feed" (defArgs sFeed) (defBody sFeed) (defScope sFeed) .none kV8 dc8 pm8 an8 cd8 ct8), sl8⟩)
    (c8 : PySem.W.codeIn K cd8 "_law_feed" = true)
    (k8 : PySem.W.keepIn K (.ref f8) = true)
    (a9 : PySem.W.nsIn K mainGlobals "_law_draw" = some (some (.ref f9)))
    (l9 : K.lookup f9 = some ⟨oc9, od9, .func (PySem.W.fnOf "_law_draw" "_law_draw" (defArgs sDraw) (defBody sDraw) (defScope sDraw) .none kV9 dc9 pm9 an9 cd9 ct9), sl9⟩)
    (c9 : PySem.W.codeIn K cd9 "_law_draw" = true)
    (k9 : PySem.W.keepIn K (.ref f9) = true)
    (a10 : PySem.W.nsIn K mainGlobals "_law_pick" = some (some (.ref f10)))
    (l10 : K.lookup f10 = some ⟨oc10, od10, .func (PySem.W.fnOf "_law_pick" "_law_pick" (defArgs sPick) (defBody sPick) (defScope sPick) .none kV10 dc10 pm10 an10 cd10 ct10), sl10⟩)
    (c10 : PySem.W.codeIn K cd10 "_law_pick" = true)
    (k10 : PySem.W.keepIn K (.ref f10) = true)
    (a11 : PySem.W.nsIn K mainGlobals "_law_names" = some (some (.ref f11)))
    (l11 : K.lookup f11 = some ⟨oc11, od11, .func (PySem.W.fnOf "_law_names" "_law_names" (defArgs sNames) (defBody sNames) (defScope sNames) .none kV11 dc11 pm11 an11 cd11 ct11), sl11⟩)
    (c11 : PySem.W.codeIn K cd11 "_law_names" = true)
    (k11 : PySem.W.keepIn K (.ref f11) = true)
    (a12 : PySem.W.nsIn K mainGlobals "_law_level" = some (some (.ref f12)))
    (l12 : K.lookup f12 = some ⟨oc12, od12, .func (PySem.W.fnOf "_law_level" "_law_level" (defArgs sLevel) (defBody sLevel) (defScope sLevel) .none kV12 dc12 pm12 an12 cd12 ct12), sl12⟩)
    (c12 : PySem.W.codeIn K cd12 "_law_level" = true)
    (k12 : PySem.W.keepIn K (.ref f12) = true)
    (a13 : PySem.W.nsIn K mainGlobals "_law_top" = some (some (.ref f13)))
    (l13 : K.lookup f13 = some ⟨oc13, od13, .func (PySem.W.fnOf "_law_top" "_law_top" (defArgs sTop) (defBody sTop) (defScope sTop) .none kV13 dc13 pm13 an13 cd13 ct13), sl13⟩)
    (c13 : PySem.W.codeIn K cd13 "_law_top" = true)
    (k13 : PySem.W.keepIn K (.ref f13) = true)
    (a14 : PySem.W.nsIn K mainGlobals "_law_laid" = some (some (.ref f14)))
    (l14 : K.lookup f14 = some ⟨oc14, od14, .func (PySem.W.fnOf "_law_laid" "_law_laid" (defArgs sLaid) (defBody sLaid) (defScope sLaid) .none kV14 dc14 pm14 an14 cd14 ct14), sl14⟩)
    (c14 : PySem.W.codeIn K cd14 "_law_laid" = true)
    (k14 : PySem.W.keepIn K (.ref f14) = true)
    (a15 : PySem.W.nsIn K mainGlobals "_law_cut_off" = some (some (.ref f15)))
    (l15 : K.lookup f15 = some ⟨oc15, od15, .func (PySem.W.fnOf "_law_cut_off" "_law_cut_off" (defArgs sCutOff) (defBody sCutOff) (defScope sCutOff) .none kV15 dc15 pm15 an15 cd15 ct15), sl15⟩)
    (c15 : PySem.W.codeIn K cd15 "_law_cut_off" = true)
    (k15 : PySem.W.keepIn K (.ref f15) = true)
    (a16 : PySem.W.nsIn K mainGlobals "_law_pool" = some (some (.ref f16)))
    (l16 : K.lookup f16 = some ⟨oc16, od16, .func (PySem.W.fnOf "_law_pool" "_law_pool" (defArgs sPool) (defBody sPool) (defScope sPool) .none kV16 dc16 pm16 an16 cd16 ct16), sl16⟩)
    (c16 : PySem.W.codeIn K cd16 "_law_pool" = true)
    (k16 : PySem.W.keepIn K (.ref f16) = true)
    (a17 : PySem.W.nsIn K mainGlobals "_law_layers" = some (some (.ref f17)))
    (l17 : K.lookup f17 = some ⟨oc17, od17, .func (PySem.W.fnOf "_law_layers" "_law_layers" (defArgs sLayers) (defBody sLayers) (defScope sLayers) .none kV17 dc17 pm17 an17 cd17 ct17), sl17⟩)
    (c17 : PySem.W.codeIn K cd17 "_law_layers" = true)
    (k17 : PySem.W.keepIn K (.ref f17) = true)
    (a18 : PySem.W.nsIn K mainGlobals "_law_column" = some (some (.ref f18)))
    (l18 : K.lookup f18 = some ⟨oc18, od18, .func (PySem.W.fnOf "_law_column" "_law_column" (defArgs sColumn) (defBody sColumn) (defScope sColumn) .none kV18 dc18 pm18 an18 cd18 ct18), sl18⟩)
    (c18 : PySem.W.codeIn K cd18 "_law_column" = true)
    (k18 : PySem.W.keepIn K (.ref f18) = true)
    (a19 : PySem.W.nsIn K mainGlobals "_law_built" = some (some (.ref f19)))
    (l19 : K.lookup f19 = some ⟨oc19, od19, .func (PySem.W.fnOf "_law_built" "_law_built" (defArgs sBuilt) (defBody sBuilt) (defScope sBuilt) .none kV19 dc19 pm19 an19 cd19 ct19), sl19⟩)
    (c19 : PySem.W.codeIn K cd19 "_law_built" = true)
    (k19 : PySem.W.keepIn K (.ref f19) = true)
    (a20 : PySem.W.nsIn K mainGlobals "_law_told_column" = some (some (.ref f20)))
    (l20 : K.lookup f20 = some ⟨oc20, od20, .func (PySem.W.fnOf "_law_told_column" "_law_told_column" (defArgs sToldColumn) (defBody sToldColumn) (defScope sToldColumn) .none kV20 dc20 pm20 an20 cd20 ct20), sl20⟩)
    (c20 : PySem.W.codeIn K cd20 "_law_told_column" = true)
    (k20 : PySem.W.keepIn K (.ref f20) = true)
    (a21 : PySem.W.nsIn K mainGlobals "_law_heights" = some (some (.ref f21)))
    (l21 : K.lookup f21 = some ⟨oc21, od21, .func (PySem.W.fnOf "_law_heights" "_law_heights" (defArgs sHeights) (defBody sHeights) (defScope sHeights) .none kV21 dc21 pm21 an21 cd21 ct21), sl21⟩)
    (c21 : PySem.W.codeIn K cd21 "_law_heights" = true)
    (k21 : PySem.W.keepIn K (.ref f21) = true)
    (a22 : PySem.W.nsIn K mainGlobals "_law_near" = some (some (.ref f22)))
    (l22 : K.lookup f22 = some ⟨oc22, od22, .func (PySem.W.fnOf "_law_near" "_law_near" (defArgs sNear) (defBody sNear) (defScope sNear) .none kV22 dc22 pm22 an22 cd22 ct22), sl22⟩)
    (c22 : PySem.W.codeIn K cd22 "_law_near" = true)
    (k22 : PySem.W.keepIn K (.ref f22) = true)
    (a23 : PySem.W.nsIn K mainGlobals "_law_next" = some (some (.ref f23)))
    (l23 : K.lookup f23 = some ⟨oc23, od23, .func (PySem.W.fnOf "_law_next" "_law_next" (defArgs sNext) (defBody sNext) (defScope sNext) .none kV23 dc23 pm23 an23 cd23 ct23), sl23⟩)
    (c23 : PySem.W.codeIn K cd23 "_law_next" = true)
    (k23 : PySem.W.keepIn K (.ref f23) = true)
    (a24 : PySem.W.nsIn K mainGlobals "law" = some (some (.ref f24)))
    (l24 : K.lookup f24 = some ⟨oc24, od24, .func (PySem.W.fnOf "law" "law" (defArgs sLaw) (defBody sLaw) (defScope sLaw) .none kV24 dc24 pm24 an24 cd24 ct24), sl24⟩)
    (c24 : PySem.W.codeIn K cd24 "law" = true)
    (k24 : PySem.W.keepIn K (.ref f24) = true)
    (z_int : PySem.W.nsIn K mainGlobals "int" = some none)
    (z_len : PySem.W.nsIn K mainGlobals "len" = some none)
    (z_abs : PySem.W.nsIn K mainGlobals "abs" = some none)
    (z_range : PySem.W.nsIn K mainGlobals "range" = some none)
    (z_tuple : PySem.W.nsIn K mainGlobals "tuple" = some none)
    (z_list : PySem.W.nsIn K mainGlobals "list" = some none)
    (z_str : PySem.W.nsIn K mainGlobals "str" = some none)
    (z_bool : PySem.W.nsIn K mainGlobals "bool" = some none)
    (z_isinstance : PySem.W.nsIn K mainGlobals "isinstance" = some none)
    (z_all : PySem.W.nsIn K mainGlobals "all" = some none)
    (z_any : PySem.W.nsIn K mainGlobals "any" = some none)
    (z_min : PySem.W.nsIn K mainGlobals "min" = some none)
    (z_sum : PySem.W.nsIn K mainGlobals "sum" = some none)
    (z_zip : PySem.W.nsIn K mainGlobals "zip" = some none)
    (zN : PySem.W.nsIn K mainGlobals "LONGEST_NAME" = some (some (.int 8 tN)))
    (zC : PySem.W.nsIn K mainGlobals "Column" = some (some (.ref aC)))
    (pg : PySem.W.plainGet K aC Str.empty = true)
    (hd : PySem.W.hasDictIn K aC = true)
    (po : PySem.W.plainOver K aC = true)
    (sa : PySem.W.findIn K (.ref aC) "__setattr__" = some (some (.builtin "object.__setattr__")))
    (mkC : PySem.W.makesIn K aC = true)
    (kc : PySem.W.keepIn K (.ref aC) = true)
    (n_foot : PySem.W.findIn K (.ref aC) "_foot" = some none)
    (n_beds : PySem.W.findIn K (.ref aC) "_beds" = some none)
    (n_root : PySem.W.findIn K (.ref aC) "_root" = some none)
    (n_mark : PySem.W.findIn K (.ref aC) "_mark" = some none)
    (aI : PySem.W.findIn K (.ref aC) "__init__" = some (some (.ref fI)))
    (iI : PySem.W.isFn K (.ref fI) = true)
    (lI : K.lookup fI = some ⟨ocI, odI, .func (PySem.W.fnOf "__init__" "Column.__init__" (defArgs sInit) (defBody sInit) (defScope sInit) (.ref aT) (.ref aK) dcI pmI anI cdI ctI), slI⟩)
    (cI : PySem.W.codeIn K cdI "Column.__init__" = true)
    (kI : PySem.W.keepIn K (.ref fI) = true)
    (lT : K.lookup aT = some ⟨ocT, odT, .seq [Value.int 0 tZ, .ref aT0].toArray nT, slT⟩)
    (lT0 : K.lookup aT0 = some ⟨.type "tuple", odT0, .seq #[] nT0, slT0⟩)
    (kR : PySem.W.nsIn K aK "root" = some (some .none))
    (kM : PySem.W.nsIn K aK "mark" = some (some .none))
    (pa1 : PySem.W.findIn K (.ref aC) "foot" = some (some (.ref pp1)))
    (pb1 : PySem.W.specialIn K (.ref pp1) "__get__" = some (some (.builtin "property.__get__")))
    (pc1 : PySem.W.takesIn K (.ref pp1) = some true)
    (pd1 : PySem.W.recIn K pp1 "property" = some (.ref fp1 :: rs1))
    (lp1 : K.lookup fp1 = some ⟨ocp1, odp1, .func (PySem.W.fnOf "foot" "Column.foot" (defArgs sPFoot) (defBody sPFoot) (defScope sPFoot) .none kVp1 dcp1 pmp1 anp1 cdp1 ctp1), slp1⟩)
    (cp1 : PySem.W.codeIn K cdp1 "Column.foot" = true)
    (kp1 : PySem.W.keepIn K (.ref fp1) = true)
    (pa2 : PySem.W.findIn K (.ref aC) "beds" = some (some (.ref pp2)))
    (pb2 : PySem.W.specialIn K (.ref pp2) "__get__" = some (some (.builtin "property.__get__")))
    (pc2 : PySem.W.takesIn K (.ref pp2) = some true)
    (pd2 : PySem.W.recIn K pp2 "property" = some (.ref fp2 :: rs2))
    (lp2 : K.lookup fp2 = some ⟨ocp2, odp2, .func (PySem.W.fnOf "beds" "Column.beds" (defArgs sPBeds) (defBody sPBeds) (defScope sPBeds) .none kVp2 dcp2 pmp2 anp2 cdp2 ctp2), slp2⟩)
    (cp2 : PySem.W.codeIn K cdp2 "Column.beds" = true)
    (kp2 : PySem.W.keepIn K (.ref fp2) = true)
    (pa3 : PySem.W.findIn K (.ref aC) "root" = some (some (.ref pp3)))
    (pb3 : PySem.W.specialIn K (.ref pp3) "__get__" = some (some (.builtin "property.__get__")))
    (pc3 : PySem.W.takesIn K (.ref pp3) = some true)
    (pd3 : PySem.W.recIn K pp3 "property" = some (.ref fp3 :: rs3))
    (lp3 : K.lookup fp3 = some ⟨ocp3, odp3, .func (PySem.W.fnOf "root" "Column.root" (defArgs sPRoot) (defBody sPRoot) (defScope sPRoot) .none kVp3 dcp3 pmp3 anp3 cdp3 ctp3), slp3⟩)
    (cp3 : PySem.W.codeIn K cdp3 "Column.root" = true)
    (kp3 : PySem.W.keepIn K (.ref fp3) = true)
    (pa4 : PySem.W.findIn K (.ref aC) "mark" = some (some (.ref pp4)))
    (pb4 : PySem.W.specialIn K (.ref pp4) "__get__" = some (some (.builtin "property.__get__")))
    (pc4 : PySem.W.takesIn K (.ref pp4) = some true)
    (pd4 : PySem.W.recIn K pp4 "property" = some (.ref fp4 :: rs4))
    (lp4 : K.lookup fp4 = some ⟨ocp4, odp4, .func (PySem.W.fnOf "mark" "Column.mark" (defArgs sPMark) (defBody sPMark) (defScope sPMark) .none kVp4 dcp4 pmp4 anp4 cdp4 ctp4), slp4⟩)
    (cp4 : PySem.W.codeIn K cdp4 "Column.mark" = true)
    (kp4 : PySem.W.keepIn K (.ref fp4) = true)
    (pa5 : PySem.W.findIn K (.ref aC) "top" = some (some (.ref pp5)))
    (pb5 : PySem.W.specialIn K (.ref pp5) "__get__" = some (some (.builtin "property.__get__")))
    (pc5 : PySem.W.takesIn K (.ref pp5) = some true)
    (pd5 : PySem.W.recIn K pp5 "property" = some (.ref fp5 :: rs5))
    (lp5 : K.lookup fp5 = some ⟨ocp5, odp5, .func (PySem.W.fnOf "top" "Column.top" (defArgs sPTop) (defBody sPTop) (defScope sPTop) .none kVp5 dcp5 pmp5 anp5 cdp5 ctp5), slp5⟩)
    (cp5 : PySem.W.codeIn K cdp5 "Column.top" = true)
    (kp5 : PySem.W.keepIn K (.ref fp5) = true)
    (ma1 : PySem.W.findIn K (.ref aC) "laid" = some (some (.ref fm1)))
    (mi1 : PySem.W.isFn K (.ref fm1) = true)
    (lm1 : K.lookup fm1 = some ⟨ocm1, odm1, .func (PySem.W.fnOf "laid" "Column.laid" (defArgs sMLaid) (defBody sMLaid) (defScope sMLaid) .none kVm1 dcm1 pmm1 anm1 cdm1 ctm1), slm1⟩)
    (cm1 : PySem.W.codeIn K cdm1 "Column.laid" = true)
    (km1 : PySem.W.keepIn K (.ref fm1) = true)
    (ma2 : PySem.W.findIn K (.ref aC) "cut_to" = some (some (.ref fm2)))
    (mi2 : PySem.W.isFn K (.ref fm2) = true)
    (lm2 : K.lookup fm2 = some ⟨ocm2, odm2, .func (PySem.W.fnOf "cut_to" "Column.cut_to" (defArgs sMCut) (defBody sMCut) (defScope sMCut) .none kVm2 dcm2 pmm2 anm2 cdm2 ctm2), slm2⟩)
    (cm2 : PySem.W.codeIn K cdm2 "Column.cut_to" = true)
    (km2 : PySem.W.keepIn K (.ref fm2) = true)
    (ma3 : PySem.W.findIn K (.ref aC) "turned" = some (some (.ref fm3)))
    (mi3 : PySem.W.isFn K (.ref fm3) = true)
    (lm3 : K.lookup fm3 = some ⟨ocm3, odm3, .func (PySem.W.fnOf "turned" "Column.turned" (defArgs sMTurned) (defBody sMTurned) (defScope sMTurned) .none kVm3 dcm3 pmm3 anm3 cdm3 ctm3), slm3⟩)
    (cm3 : PySem.W.codeIn K cdm3 "Column.turned" = true)
    (km3 : PySem.W.keepIn K (.ref fm3) = true)
    (ma4 : PySem.W.findIn K (.ref aC) "lifted" = some (some (.ref fm4)))
    (mi4 : PySem.W.isFn K (.ref fm4) = true)
    (lm4 : K.lookup fm4 = some ⟨ocm4, odm4, .func (PySem.W.fnOf "lifted" "Column.lifted" (defArgs sMLifted) (defBody sMLifted) (defScope sMLifted) .none kVm4 dcm4 pmm4 anm4 cdm4 ctm4), slm4⟩)
    (cm4 : PySem.W.codeIn K cdm4 "Column.lifted" = true)
    (km4 : PySem.W.keepIn K (.ref fm4) = true)
    (ma5 : PySem.W.findIn K (.ref aC) "_with_beds" = some (some (.ref fm5)))
    (mi5 : PySem.W.isFn K (.ref fm5) = true)
    (lm5 : K.lookup fm5 = some ⟨ocm5, odm5, .func (PySem.W.fnOf "_with_beds" "Column._with_beds" (defArgs sMWith) (defBody sMWith) (defScope sMWith) .none kVm5 dcm5 pmm5 anm5 cdm5 ctm5), slm5⟩)
    (cm5 : PySem.W.codeIn K cdm5 "Column._with_beds" = true)
    (km5 : PySem.W.keepIn K (.ref fm5) = true)
    (aQ : PySem.W.findIn K (.ref aC) "__eq__" = some (some (.ref fQ)))
    (iQ : PySem.W.isFn K (.ref fQ) = true)
    (lQ : K.lookup fQ = some ⟨ocQ, odQ, .func (PySem.W.fnOf "__eq__" "Column.__eq__" (defArgs sMEq) (defBody sMEq) (defScope sMEq) .none kVQ dcQ pmQ anQ cdQ ctQ), slQ⟩)
    (cQ : PySem.W.codeIn K cdQ "Column.__eq__" = true)
    (kQ : PySem.W.keepIn K (.ref fQ) = true)
    (aW : PySem.W.findIn K (.ref aC) "__len__" = some (some (.ref fW)))
    (iW : PySem.W.isFn K (.ref fW) = true)
    (lW : K.lookup fW = some ⟨ocW, odW, .func (PySem.W.fnOf "__len__" "Column.__len__" (defArgs sMLen) (defBody sMLen) (defScope sMLen) .none kVW dcW pmW anW cdW ctW), slW⟩)
    (cW : PySem.W.codeIn K cdW "Column.__len__" = true)
    (kW : PySem.W.keepIn K (.ref fW) = true)
    (gNe : PySem.W.findIn K (.ref aC) "__ne__" = some (some (.builtin "object.__ne__")))
    (gOb : PySem.W.mroIn K aC (.type "object") = some true)
    (gCl : PySem.W.findIn K (.ref aC) "__class__" = some (some (.builtin "object.__class__")))
    (gGe : PySem.W.specialIn K (.builtin "object.__class__") "__get__" = some (some (.builtin "getset_descriptor.__get__")))
    (gTk : PySem.W.takesIn K (.builtin "object.__class__") = some true)
    : ∃ fd : FuncData, (∀ (s : Shared) (v : Value), BindsTo s fd ⟨[v], []⟩ [("_law_script", v)]) ∧ ∀ base : Heap, K.In base → base.Ns mainGlobals mg → FnOk l.prog w K mg base CX0 9 fa fd ["_law_script"] (spLaw K) := by
  have e := hfa.symm.trans (PySem.W.mg_of X G a24)
  cases e
  have T : Txt mg := ⟨PySem.W.mg_none_of X G z_int, PySem.W.mg_none_of X G z_len, PySem.W.mg_none_of X G z_abs, PySem.W.mg_none_of X G z_range, PySem.W.mg_none_of X G z_tuple, PySem.W.mg_none_of X G z_list, PySem.W.mg_none_of X G z_str, PySem.W.mg_none_of X G z_bool, PySem.W.mg_none_of X G z_isinstance, PySem.W.mg_none_of X G z_all, PySem.W.mg_none_of X G z_any, PySem.W.mg_none_of X G z_min, PySem.W.mg_none_of X G z_sum, PySem.W.mg_none_of X G z_zip⟩
  have F0 := fun_mk (st := sIsName) l0 c0 k0
  have D0 : DefAt K mg "is_name" sIsName ["value"] _ _ := ⟨F0, PySem.W.mg_of X G a0, F0.binds (ps := ["value"]) fun _ _ _ _ _ _ us hl => match us, hl with | [_], _ => rfl⟩
  have F1 := fun_mk (st := sIsLevel) l1 c1 k1
  have D1 : DefAt K mg "is_level" sIsLevel ["value"] _ _ := ⟨F1, PySem.W.mg_of X G a1, F1.binds (ps := ["value"]) fun _ _ _ _ _ _ us hl => match us, hl with | [_], _ => rfl⟩
  have F2 := fun_mk (st := sNeedName) l2 c2 k2
  have D2 : DefAt K mg "need_name" sNeedName ["value"] _ _ := ⟨F2, PySem.W.mg_of X G a2, F2.binds (ps := ["value"]) fun _ _ _ _ _ _ us hl => match us, hl with | [_], _ => rfl⟩
  have F3 := fun_mk (st := sNeedLevel) l3 c3 k3
  have D3 : DefAt K mg "need_level" sNeedLevel ["value"] _ _ := ⟨F3, PySem.W.mg_of X G a3, F3.binds (ps := ["value"]) fun _ _ _ _ _ _ us hl => match us, hl with | [_], _ => rfl⟩
  have F4 := fun_mk (st := sNeedNameOrNone) l4 c4 k4
  have D4 : DefAt K mg "need_name_or_none" sNeedNameOrNone ["value"] _ _ := ⟨F4, PySem.W.mg_of X G a4, F4.binds (ps := ["value"]) fun _ _ _ _ _ _ us hl => match us, hl with | [_], _ => rfl⟩
  have F5 := fun_mk (st := sIsBed) l5 c5 k5
  have D5 : DefAt K mg "is_bed" sIsBed ["value"] _ _ := ⟨F5, PySem.W.mg_of X G a5, F5.binds (ps := ["value"]) fun _ _ _ _ _ _ us hl => match us, hl with | [_], _ => rfl⟩
  have F6 := fun_mk (st := sMerges) l6 c6 k6
  have D6 : DefAt K mg "merges" sMerges ["bed", "rock"] _ _ := ⟨F6, PySem.W.mg_of X G a6, F6.binds (ps := ["bed", "rock"]) fun _ _ _ _ _ _ us hl => match us, hl with | [_, _], _ => rfl⟩
  have F7 := fun_mk (st := sAreBeds) l7 c7 k7
  have D7 : DefAt K mg "are_beds" sAreBeds ["value"] _ _ := ⟨F7, PySem.W.mg_of X G a7, F7.binds (ps := ["value"]) fun _ _ _ _ _ _ us hl => match us, hl with | [_], _ => rfl⟩
  have F8 := fun_mk (st := sFeed) l8 c8 k8
  have D8 : DefAt K mg "_law_feed" sFeed ["_law_script"] _ _ := ⟨F8, PySem.W.mg_of X G a8, F8.binds (ps := ["_law_script"]) fun _ _ _ _ _ _ us hl => match us, hl with | [_], _ => rfl⟩
  have F9 := fun_mk (st := sDraw) l9 c9 k9
  have D9 : DefAt K mg "_law_draw" sDraw ["_law_feed_here", "_law_many"] _ _ := ⟨F9, PySem.W.mg_of X G a9, F9.binds (ps := ["_law_feed_here", "_law_many"]) fun _ _ _ _ _ _ us hl => match us, hl with | [_, _], _ => rfl⟩
  have F10 := fun_mk (st := sPick) l10 c10 k10
  have D10 : DefAt K mg "_law_pick" sPick ["_law_feed_here", "_law_options"] _ _ := ⟨F10, PySem.W.mg_of X G a10, F10.binds (ps := ["_law_feed_here", "_law_options"]) fun _ _ _ _ _ _ us hl => match us, hl with | [_, _], _ => rfl⟩
  have F11 := fun_mk (st := sNames) l11 c11 k11
  have D11 : DefAt K mg "_law_names" sNames ["_law_feed_here", "_law_many"] _ _ := ⟨F11, PySem.W.mg_of X G a11, F11.binds (ps := ["_law_feed_here", "_law_many"]) fun _ _ _ _ _ _ us hl => match us, hl with | [_, _], _ => rfl⟩
  have F12 := fun_mk (st := sLevel) l12 c12 k12
  have D12 : DefAt K mg "_law_level" sLevel ["_law_feed_here"] _ _ := ⟨F12, PySem.W.mg_of X G a12, F12.binds (ps := ["_law_feed_here"]) fun _ _ _ _ _ _ us hl => match us, hl with | [_], _ => rfl⟩
  have F13 := fun_mk (st := sTop) l13 c13 k13
  have D13 : DefAt K mg "_law_top" sTop ["_law_column_here"] _ _ := ⟨F13, PySem.W.mg_of X G a13, F13.binds (ps := ["_law_column_here"]) fun _ _ _ _ _ _ us hl => match us, hl with | [_], _ => rfl⟩
  have F14 := fun_mk (st := sLaid) l14 c14 k14
  have D14 : DefAt K mg "_law_laid" sLaid ["_law_column_here", "_law_rock", "_law_level_here"] _ _ := ⟨F14, PySem.W.mg_of X G a14, F14.binds (ps := ["_law_column_here", "_law_rock", "_law_level_here"]) fun _ _ _ _ _ _ us hl => match us, hl with | [_, _, _], _ => rfl⟩
  have F15 := fun_mk (st := sCutOff) l15 c15 k15
  have D15 : DefAt K mg "_law_cut_off" sCutOff ["_law_column_here", "_law_name", "_law_level_here"] _ _ := ⟨F15, PySem.W.mg_of X G a15, F15.binds (ps := ["_law_column_here", "_law_name", "_law_level_here"]) fun _ _ _ _ _ _ us hl => match us, hl with | [_, _, _], _ => rfl⟩
  have F16 := fun_mk (st := sPool) l16 c16 k16
  have D16 : DefAt K mg "_law_pool" sPool ["_law_feed_here"] _ _ := ⟨F16, PySem.W.mg_of X G a16, F16.binds (ps := ["_law_feed_here"]) fun _ _ _ _ _ _ us hl => match us, hl with | [_], _ => rfl⟩
  have F17 := fun_mk (st := sLayers) l17 c17 k17
  have D17 : DefAt K mg "_law_layers" sLayers ["_law_feed_here", "_law_pool_here", "_law_most"] _ _ := ⟨F17, PySem.W.mg_of X G a17, F17.binds (ps := ["_law_feed_here", "_law_pool_here", "_law_most"]) fun _ _ _ _ _ _ us hl => match us, hl with | [_, _, _], _ => rfl⟩
  have F18 := fun_mk (st := sColumn) l18 c18 k18
  have D18 : DefAt K mg "_law_column" sColumn ["_law_feed_here", "_law_pool_here", "_law_most"] _ _ := ⟨F18, PySem.W.mg_of X G a18, F18.binds (ps := ["_law_feed_here", "_law_pool_here", "_law_most"]) fun _ _ _ _ _ _ us hl => match us, hl with | [_, _, _], _ => rfl⟩
  have F19 := fun_mk (st := sBuilt) l19 c19 k19
  have D19 : DefAt K mg "_law_built" sBuilt ["_law_column_here"] _ _ := ⟨F19, PySem.W.mg_of X G a19, F19.binds (ps := ["_law_column_here"]) fun _ _ _ _ _ _ us hl => match us, hl with | [_], _ => rfl⟩
  have F20 := fun_mk (st := sToldColumn) l20 c20 k20
  have D20 : DefAt K mg "_law_told_column" sToldColumn ["_law_one"] _ _ := ⟨F20, PySem.W.mg_of X G a20, F20.binds (ps := ["_law_one"]) fun _ _ _ _ _ _ us hl => match us, hl with | [_], _ => rfl⟩
  have F21 := fun_mk (st := sHeights) l21 c21 k21
  have D21 : DefAt K mg "_law_heights" sHeights ["_law_column_here"] _ _ := ⟨F21, PySem.W.mg_of X G a21, F21.binds (ps := ["_law_column_here"]) fun _ _ _ _ _ _ us hl => match us, hl with | [_], _ => rfl⟩
  have F22 := fun_mk (st := sNear) l22 c22 k22
  have D22 : DefAt K mg "_law_near" sNear ["_law_feed_here", "_law_column_here"] _ _ := ⟨F22, PySem.W.mg_of X G a22, F22.binds (ps := ["_law_feed_here", "_law_column_here"]) fun _ _ _ _ _ _ us hl => match us, hl with | [_, _], _ => rfl⟩
  have F23 := fun_mk (st := sNext) l23 c23 k23
  have D23 : DefAt K mg "_law_next" sNext ["_law_feed_here", "_law_pool_here", "_law_one", "_law_plain"] _ _ := ⟨F23, PySem.W.mg_of X G a23, F23.binds (ps := ["_law_feed_here", "_law_pool_here", "_law_one", "_law_plain"]) fun _ _ _ _ _ _ us hl => match us, hl with | [_, _, _, _], _ => rfl⟩
  have F24 := fun_mk (st := sLaw) l24 c24 k24
  have D0 : Defs K mg := { fN := _, fdN := _, DN := D0, fL := _, fdL := _, DL := D1, fNN := _, fdNN := _, DNN := D2, fNL := _, fdNL := _, DNL := D3, fNO := _, fdNO := _, DNO := D4, fB := _, fdB := _, DB := D5, fM := _, fdM := _, DM := D6, fAB := _, fdAB := _, DAB := D7, tN := tN, mgN := PySem.W.mg_of X G zN }
  have L : LDefs K mg := { fF := _, fdF := _, DF := D8, fD := _, fdD := _, D := D9, fP := _, fdP := _, DP := D10, fNM := _, fdNM := _, DNM := D11, fLV := _, fdLV := _, DLV := D12, fTP := _, fdTP := _, DTP := D13, fLD := _, fdLD := _, DLD := D14, fCO := _, fdCO := _, DCO := D15, fPO := _, fdPO := _, DPO := D16, fLA := _, fdLA := _, DLA := D17, fCL := _, fdCL := _, DCL := D18, fBU := _, fdBU := _, DBU := D19, fTC := _, fdTC := _, DTC := D20, fHE := _, fdHE := _, DHE := D21, fNE := _, fdNE := _, DNE := D22, fNX := _, fdNX := _, DNX := D23 }
  have ht0 : ∀ H, SqT K H aT0 [] := fun H => .inr ⟨_, _, _, lT0, rfl, rfl, Nat.zero_le _, .nil⟩
  have FI : FunD K "__init__" "Column.__init__" (defArgs sInit) (defBody sInit) (defScope sInit) [.int 0, .ref aT0] [("root", .non), ("mark", .non)] fI _ := ⟨⟨_, _, _, _, _, _, _, _, _, _, rfl, lI, cI, .inr ⟨(fun z => nomatch z), aT, _, [Value.int 0 tZ, .ref aT0], nT, rfl, lT, rfl, .cons ⟨tZ, rfl⟩ (.cons rfl .nil)⟩, .inr ⟨aK, rfl, fun q hq => ?_⟩⟩, kI⟩
  rotate_left
  · rcases List.mem_cons.mp hq with rfl | hq
    · exact ⟨.none, kR, rfl⟩
    · cases List.mem_singleton.mp hq
      exact ⟨.none, kM, rfl⟩
  obtain ⟨i2, kb2⟩ := FI.kbindsD (ps := ["self", "foot", "beds", "root", "mark"]) 3 ["root", "mark"] (fun vs _ zs => vs ++ zs) (fun z => nomatch z) (fun r1 _ r3 => r1.append r3) (fun T kV doc pm an cdv ct us its ws h1 h2 h3 => match us, its, ws, h1, h2, h3 with | [_, _, _], [_, _], [_, _], _, _, _ => ⟨_, rfl, rfl⟩)
  obtain ⟨i1, kb1⟩ := FI.kbindsD (ps := ["self", "foot", "beds", "root", "mark"]) 2 ["root", "mark"] (fun vs ds zs => vs ++ (ds.drop 1 ++ zs)) (fun z => nomatch z) (fun r1 r2 r3 => r1.append ((r2.drop 1).append r3)) (fun T kV doc pm an cdv ct us its ws h1 h2 h3 => match us, its, ws, h1, h2, h3 with | [_, _], [_, _], [_, _], _, _, _ => ⟨_, rfl, rfl⟩)
  obtain ⟨i0, j0, kb0⟩ := FI.kbinds (ps := ["self", "foot", "beds", "root", "mark"]) 2 ["root"] [("mark", .non)] (fun vs ds mz zs => vs ++ (ds.drop 1 ++ (zs ++ mz))) (fun z => nomatch z) (fun z => nomatch z) (fun q hq => List.mem_cons_of_mem _ hq) (fun r1 r2 r3 r4 => r1.append ((r2.drop 1).append (r4.append r3))) (fun T D doc pm an cdv ct us its mv ws h1 h2 h3 h4 => match us, its, mv, ws, h1, h2, h3, h4 with | [_, _], [_, _], [_], [_], _, _, _, _ => ⟨_, rfl, _, _, _, _, _, _, rfl, rfl, rfl⟩)
  have Fp1 := fun_mk (x := "foot") (qual := "Column.foot") (st := sPFoot) lp1 cp1 kp1
  have Fp2 := fun_mk (x := "beds") (qual := "Column.beds") (st := sPBeds) lp2 cp2 kp2
  have Fp3 := fun_mk (x := "root") (qual := "Column.root") (st := sPRoot) lp3 cp3 kp3
  have Fp4 := fun_mk (x := "mark") (qual := "Column.mark") (st := sPMark) lp4 cp4 kp4
  have Fp5 := fun_mk (x := "top") (qual := "Column.top") (st := sPTop) lp5 cp5 kp5
  have Fm1 := fun_mk (x := "laid") (qual := "Column.laid") (st := sMLaid) lm1 cm1 km1
  have Fm2 := fun_mk (x := "cut_to") (qual := "Column.cut_to") (st := sMCut) lm2 cm2 km2
  have Fm3 := fun_mk (x := "turned") (qual := "Column.turned") (st := sMTurned) lm3 cm3 km3
  have Fm4 := fun_mk (x := "lifted") (qual := "Column.lifted") (st := sMLifted) lm4 cm4 km4
  have Fm5 := fun_mk (x := "_with_beds") (qual := "Column._with_beds") (st := sMWith) lm5 cm5 km5
  have bp1 := Fp1.binds (ps := ["self"]) fun _ _ _ _ _ _ us hl => match us, hl with | [_], _ => rfl
  have bp2 := Fp2.binds (ps := ["self"]) fun _ _ _ _ _ _ us hl => match us, hl with | [_], _ => rfl
  have bp3 := Fp3.binds (ps := ["self"]) fun _ _ _ _ _ _ us hl => match us, hl with | [_], _ => rfl
  have bp4 := Fp4.binds (ps := ["self"]) fun _ _ _ _ _ _ us hl => match us, hl with | [_], _ => rfl
  have bp5 := Fp5.binds (ps := ["self"]) fun _ _ _ _ _ _ us hl => match us, hl with | [_], _ => rfl
  have bm1 := Fm1.binds (ps := ["self", "rock", "level"]) fun _ _ _ _ _ _ us hl => match us, hl with | [_, _, _], _ => rfl
  have bm2 := Fm2.binds (ps := ["self", "name", "level"]) fun _ _ _ _ _ _ us hl => match us, hl with | [_, _, _], _ => rfl
  have bm3 := Fm3.binds (ps := ["self", "rock", "level"]) fun _ _ _ _ _ _ us hl => match us, hl with | [_, _, _], _ => rfl
  have bm4 := Fm4.binds (ps := ["self", "by"]) fun _ _ _ _ _ _ us hl => match us, hl with | [_, _], _ => rfl
  have bm5 := Fm5.binds (ps := ["self", "beds"]) fun _ _ _ _ _ _ us hl => match us, hl with | [_, _], _ => rfl
  let C : ColF K mg := { C := aC, cl := ⟨pg, hd, po, sa⟩, mgC := PySem.W.mg_of X G zC, nFoot := n_foot, nBeds := n_beds, nRoot := n_root, nMark := n_mark, t0 := aT0, ht0 := ht0, ty0 := fun H => .kTuple lT0 rfl, fI := fI, fdI := _, FI := FI, mkC := ⟨mkC, aI, iI, kc⟩, g2 := _, g1 := _, g0 := _, kb2rm := kb2, kb1rm := kb1, kb1r := kb0, p1 := pp1, q1 := fp1, d1 := _, pFoot := ⟨pa1, pb1, pc1, ⟨_, pd1⟩⟩, FpFoot := Fp1, bFoot := bp1, p2 := pp2, q2 := fp2, d2 := _, pBeds := ⟨pa2, pb2, pc2, ⟨_, pd2⟩⟩, FpBeds := Fp2, bBeds := bp2, p3 := pp3, q3 := fp3, d3 := _, pRoot := ⟨pa3, pb3, pc3, ⟨_, pd3⟩⟩, FpRoot := Fp3, bRoot := bp3, p4 := pp4, q4 := fp4, d4 := _, pMark := ⟨pa4, pb4, pc4, ⟨_, pd4⟩⟩, FpMark := Fp4, bMark := bp4, p5 := pp5, q5 := fp5, d5 := _, pTop := ⟨pa5, pb5, pc5, ⟨_, pd5⟩⟩, FpTop := Fp5, bTop := bp5, m1 := fm1, e1 := _, mLaid := ⟨ma1, mi1, km1⟩, FmLaid := Fm1, bLaid := bm1, m2 := fm2, e2 := _, mCut := ⟨ma2, mi2, km2⟩, FmCut := Fm2, bCut := bm2, m3 := fm3, e3 := _, mTurned := ⟨ma3, mi3, km3⟩, FmTurned := Fm3, bTurned := bm3, m4 := fm4, e4 := _, mLifted := ⟨ma4, mi4, km4⟩, FmLifted := Fm4, bLifted := bm4, m5 := fm5, e5 := _, mWith := ⟨ma5, mi5, km5⟩, FmWith := Fm5, bWith := bm5 }
  have FQ := fun_mk (x := "__eq__") (qual := "Column.__eq__") (st := sMEq) lQ cQ kQ
  have FW := fun_mk (x := "__len__") (qual := "Column.__len__") (st := sMLen) lW cW kW
  have bQ := FQ.binds (ps := ["self", "other"]) fun _ _ _ _ _ _ us hl => match us, hl with | [_, _], _ => rfl
  have bW := FW.binds (ps := ["self"]) fun _ _ _ _ _ _ us hl => match us, hl with | [_], _ => rfl
  have C2 : ColG K mg C := { fq := fQ, dq := _, FEq := FQ, bEq := bQ, hNe := gNe, hEq := aQ, fEq := iQ, hObj := gOb, fl := fW, dl := _, FLen := FW, bLen := bW, hLen := aW, fLen := iW, ha := gCl, hn := gGe, ht := gTk }
  exact ⟨PySem.W.fnOf "law" "law" (defArgs sLaw) (defBody sLaw) (defScope sLaw) .none kV24 dc24 pm24 an24 cd24 ct24, fun s v => .of_eq rfl, fun base _ _ => ok_law F24 T C C2 D0 L⟩
end Rk
open PySem PySem.W PyProof.Rows
set_option maxRecDepth 100000 in
set_option maxHeartbeats 0 in
theorem PySem.Challenge.cw_rockbeds_k08_whole_columns_after_many_ev_holds : PySem.Challenge.rw_rockbeds_k08_whole_columns_after_many_ev.Holds := by
  w_on; o_law; k_head; (case hw => w_witness2)
  k_fill
  refine L2.walk_of (l := PySem.Challenge.rw_rockbeds_k08_whole_columns_after_many_ev) (n := 63) (k := 9) (x := "_law_script") (CX := fun _ => L2.CX0) (sp := fun w => Rk.spLaw _) rfl (by decide) rfl ⟨rfl, by decide, by decide⟩ (fun w h Y => PySem.W.kIn_of Y) ?F (fun _ _ a ns hl _ hS => ⟨a, ns, rfl, hS, hl, fun _ => rfl⟩) (fun _ _ _ _ _ h => h)
  case F =>
    intro w mg fa h KX G hmg
    refine' Rk.all_mk KX G hmg ?a0 ?l0 ?c0 ?k0 ?a1 ?l1 ?c1 ?k1 ?a2 ?l2 ?c2 ?k2 ?a3 ?l3 ?c3 ?k3 ?a4 ?l4 ?c4 ?k4 ?a5 ?l5 ?c5 ?k5 ?a6 ?l6 ?c6 ?k6 ?a7 ?l7 ?c7 ?k7 ?a8 ?l8 ?c8 ?k8 ?a9 ?l9 ?c9 ?k9 ?a10 ?l10 ?c10 ?k10 ?a11 ?l11 ?c11 ?k11 ?a12 ?l12 ?c12 ?k12 ?a13 ?l13 ?c13 ?k13 ?a14 ?l14 ?c14 ?k14 ?a15 ?l15 ?c15 ?k15 ?a16 ?l16 ?c16 ?k16 ?a17 ?l17 ?c17 ?k17 ?a18 ?l18 ?c18 ?k18 ?a19 ?l19 ?c19 ?k19 ?a20 ?l20 ?c20 ?k20 ?a21 ?l21 ?c21 ?k21 ?a22 ?l22 ?c22 ?k22 ?a23 ?l23 ?c23 ?k23 ?a24 ?l24 ?c24 ?k24 ?z_int ?z_len ?z_abs ?z_range ?z_tuple ?z_list ?z_str ?z_bool ?z_isinstance ?z_all ?z_any ?z_min ?z_sum ?z_zip ?zN ?zC ?pg ?hd ?po ?sa ?mkC ?kc ?n_foot ?n_beds ?n_root ?n_mark ?aI ?iI ?lI ?cI ?kI ?lT ?lT0 ?kR ?kM ?pa1 ?pb1 ?pc1 ?pd1 ?lp1 ?cp1 ?kp1 ?pa2 ?pb2 ?pc2 ?pd2 ?lp2 ?cp2 ?kp2 ?pa3 ?pb3 ?pc3 ?pd3 ?lp3 ?cp3 ?kp3 ?pa4 ?pb4 ?pc4 ?pd4 ?lp4 ?cp4 ?kp4 ?pa5 ?pb5 ?pc5 ?pd5 ?lp5 ?cp5 ?kp5 ?ma1 ?mi1 ?lm1 ?cm1 ?km1 ?ma2 ?mi2 ?lm2 ?cm2 ?km2 ?ma3 ?mi3 ?lm3 ?cm3 ?km3 ?ma4 ?mi4 ?lm4 ?cm4 ?km4 ?ma5 ?mi5 ?lm5 ?cm5 ?km5 ?aQ ?iQ ?lQ ?cQ ?kQ ?aW ?iW ?lW ?cW ?kW ?gNe ?gOb ?gCl ?gGe ?gTk
    (case a0 => k_is)
    (case l0 => k_is)
    (case c0 => k_is)
    (case k0 => k_is)
    (case a1 => k_is)
    (case l1 => k_is)
    (case c1 => k_is)
    (case k1 => k_is)
    (case a2 => k_is)
    (case l2 => k_is)
    (case c2 => k_is)
    (case k2 => k_is)
    (case a3 => k_is)
    (case l3 => k_is)
    (case c3 => k_is)
    (case k3 => k_is)
    (case a4 => k_is)
    (case l4 => k_is)
    (case c4 => k_is)
    (case k4 => k_is)
    (case a5 => k_is)
    (case l5 => k_is)
    (case c5 => k_is)
    (case k5 => k_is)
    (case a6 => k_is)
    (case l6 => k_is)
    (case c6 => k_is)
    (case k6 => k_is)
    (case a7 => k_is)
    (case l7 => k_is)
    (case c7 => k_is)
    (case k7 => k_is)
    (case a8 => k_is)
    (case l8 => k_is)
    (case c8 => k_is)
    (case k8 => k_is)
    (case a9 => k_is)
    (case l9 => k_is)
    (case c9 => k_is)
    (case k9 => k_is)
    (case a10 => k_is)
    (case l10 => k_is)
    (case c10 => k_is)
    (case k10 => k_is)
    (case a11 => k_is)
    (case l11 => k_is)
    (case c11 => k_is)
    (case k11 => k_is)
    (case a12 => k_is)
    (case l12 => k_is)
    (case c12 => k_is)
    (case k12 => k_is)
    (case a13 => k_is)
    (case l13 => k_is)
    (case c13 => k_is)
    (case k13 => k_is)
    (case a14 => k_is)
    (case l14 => k_is)
    (case c14 => k_is)
    (case k14 => k_is)
    (case a15 => k_is)
    (case l15 => k_is)
    (case c15 => k_is)
    (case k15 => k_is)
    (case a16 => k_is)
    (case l16 => k_is)
    (case c16 => k_is)
    (case k16 => k_is)
    (case a17 => k_is)
    (case l17 => k_is)
    (case c17 => k_is)
    (case k17 => k_is)
    (case a18 => k_is)
    (case l18 => k_is)
    (case c18 => k_is)
    (case k18 => k_is)
    (case a19 => k_is)
    (case l19 => k_is)
    (case c19 => k_is)
    (case k19 => k_is)
    (case a20 => k_is)
    (case l20 => k_is)
    (case c20 => k_is)
    (case k20 => k_is)
    (case a21 => k_is)
    (case l21 => k_is)
    (case c21 => k_is)
    (case k21 => k_is)
    (case a22 => k_is)
    (case l22 => k_is)
    (case c22 => k_is)
    (case k22 => k_is)
    (case a23 => k_is)
    (case l23 => k_is)
    (case c23 => k_is)
    (case k23 => k_is)
    (case a24 => k_is)
    (case l24 => k_is)
    (case c24 => k_is)
    (case k24 => k_is)
    (case z_int => k_is)
    (case z_len => k_is)
    (case z_abs => k_is)
    (case z_range => k_is)
    (case z_tuple => k_is)
    (case z_list => k_is)
    (case z_str => k_is)
    (case z_bool => k_is)
    (case z_isinstance => k_is)
    (case z_all => k_is)
    (case z_any => k_is)
    (case z_min => k_is)
    (case z_sum => k_is)
    (case z_zip => k_is)
    (case zN => k_is)
    (case zC => k_is)
    (case pg => k_is)
    (case hd => k_is)
    (case po => k_is)
    (case sa => k_is)
    (case mkC => k_is)
    (case kc => k_is)
    (case n_foot => k_is)
    (case n_beds => k_is)
    (case n_root => k_is)
    (case n_mark => k_is)
    (case aI => k_is)
    (case iI => k_is)
    (case lI => k_is)
    (case cI => k_is)
    (case kI => k_is)
    (case lT => k_is)
    (case lT0 => k_is)
    (case kR => k_is)
    (case kM => k_is)
    (case pa1 => k_is)
    (case pb1 => k_is)
    (case pc1 => k_is)
    (case pd1 => k_is)
    (case lp1 => k_is)
    (case cp1 => k_is)
    (case kp1 => k_is)
    (case pa2 => k_is)
    (case pb2 => k_is)
    (case pc2 => k_is)
    (case pd2 => k_is)
    (case lp2 => k_is)
    (case cp2 => k_is)
    (case kp2 => k_is)
    (case pa3 => k_is)
    (case pb3 => k_is)
    (case pc3 => k_is)
    (case pd3 => k_is)
    (case lp3 => k_is)
    (case cp3 => k_is)
    (case kp3 => k_is)
    (case pa4 => k_is)
    (case pb4 => k_is)
    (case pc4 => k_is)
    (case pd4 => k_is)
    (case lp4 => k_is)
    (case cp4 => k_is)
    (case kp4 => k_is)
    (case pa5 => k_is)
    (case pb5 => k_is)
    (case pc5 => k_is)
    (case pd5 => k_is)
    (case lp5 => k_is)
    (case cp5 => k_is)
    (case kp5 => k_is)
    (case ma1 => k_is)
    (case mi1 => k_is)
    (case lm1 => k_is)
    (case cm1 => k_is)
    (case km1 => k_is)
    (case ma2 => k_is)
    (case mi2 => k_is)
    (case lm2 => k_is)
    (case cm2 => k_is)
    (case km2 => k_is)
    (case ma3 => k_is)
    (case mi3 => k_is)
    (case lm3 => k_is)
    (case cm3 => k_is)
    (case km3 => k_is)
    (case ma4 => k_is)
    (case mi4 => k_is)
    (case lm4 => k_is)
    (case cm4 => k_is)
    (case km4 => k_is)
    (case ma5 => k_is)
    (case mi5 => k_is)
    (case lm5 => k_is)
    (case cm5 => k_is)
    (case km5 => k_is)
    (case aQ => k_is)
    (case iQ => k_is)
    (case lQ => k_is)
    (case cQ => k_is)
    (case kQ => k_is)
    (case aW => k_is)
    (case iW => k_is)
    (case lW => k_is)
    (case cW => k_is)
    (case kW => k_is)
    (case gNe => k_is)
    (case gOb => k_is)
    (case gCl => k_is)
    (case gGe => k_is)
    (case gTk => k_is)
