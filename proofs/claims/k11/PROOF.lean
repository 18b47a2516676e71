import PyProof.Rows.All
import Wide.All
import OpenK.AllK
import Wide.FinOn
import HandS.ForMost
import HandS.Wide
import HandS.IsInst
import HandS.RaiseMore
import HandS.TupLe
import HandS.Codes
import HandS.Walk
import HandS.Style
import HandS.Zip
import HandS.TupAny
import HandS.Property
import HandS.MakeKw
import HandS.Defaults
import HandS.ClsMeth
import HandS.WordsExc
import HandS.ExcInit
import HandS.ExcIs
import KE.KExcInit
import KE.KExcIs
import HandS.OwnEq
import HandS.TryOnly
import HandS.ExcField
import PySem.Challenge.RW_rockbeds_k11_sections_side_by_side
set_option Elab.async false
set_option linter.all false
set_option maxRecDepth 100000
namespace Rk
open PySem L2
def top (i : Nat) : Stmt := PySem.Challenge.pw_rockbeds_k11_sections_side_by_side.main.body.getD i (.Pass ⟨0, 0, 0, 0⟩)
abbrev sIsName : Stmt := top 13
abbrev sIsLevel : Stmt := top 14
abbrev sIsIndex : Stmt := top 15
abbrev sNeedName : Stmt := top 16
abbrev sNeedLevel : Stmt := top 17
abbrev sNeedNameOrNone : Stmt := top 18
abbrev sIsBed : Stmt := top 19
abbrev sMerges : Stmt := top 20
abbrev sAreBeds : Stmt := top 21
abbrev sIsWidth : Stmt := top 35
abbrev sAreColumns : Stmt := top 36
abbrev sCopied : Stmt := top 2
abbrev sFeed : Stmt := top 41
abbrev sDraw : Stmt := top 42
abbrev sPick : Stmt := top 43
abbrev sNames : Stmt := top 44
abbrev sLevel : Stmt := top 45
abbrev sSection : Stmt := top 46
abbrev sShown : Stmt := top 47
abbrev sPool : Stmt := top 48
abbrev sLayers : Stmt := top 49
abbrev sColumn : Stmt := top 50
abbrev sSum : Stmt := top 51
abbrev sLaw : Stmt := top 52
/-! ### the feed -/
abbrev kC : Key := Sum.inr "cells"
abbrev kA : Key := Sum.inr "at"
abbrev kL : Key := Sum.inr "left"
def fk (c : Addr) (n l : Int) : List (Key × V) := [(kC, .ref c), (kA, .int n), (kL, .int l)]
theorem nCA : ¬ kC = kA := by decide +kernel
theorem nCL : ¬ kC = kL := by decide +kernel
theorem nAL : ¬ kA = kL := by decide +kernel
theorem fk_cells (c : Addr) (n l : Int) : valV (fk c n l) kC = some (.ref c) := valV_pos rfl
theorem fk_at (c : Addr) (n l : Int) : valV (fk c n l) kA = some (.int n) := by
  unfold fk
  rw [valV_neg nCA, valV_pos rfl]
theorem fk_left (c : Addr) (n l : Int) : valV (fk c n l) kL = some (.int l) := by
  unfold fk
  rw [valV_neg nCL, valV_neg nAL, valV_pos rfl]
theorem fk_put_left (c : Addr) (n l z : Int) : putK (fk c n l) kL (.int z) = fk c n z := by
  unfold fk putK
  simp only [List.any_cons, List.map_cons, List.map_nil, List.any_nil, nCL, nAL, decide_false, decide_true, Bool.or_true, Bool.true_or, Bool.false_or, if_true, if_false, Bool.or_false]
theorem fk_put_at (c : Addr) (n l z : Int) : putK (fk c n l) kA (.int z) = fk c z l := by
  unfold fk putK
  have e : ¬ kL = kA := fun h => nAL h.symm
  simp only [List.any_cons, List.map_cons, List.map_nil, List.any_nil, nCA, e, decide_false, decide_true, Bool.or_true, Bool.true_or, Bool.false_or, if_true, if_false, Bool.or_false]
structure Feed (H : Hp) (d c : Addr) (ns : List Int) (n : Nat) : Prop where
  fd : ∃ l : Int, 0 ≤ l ∧ H d = some (.dK (fk c n l))
  cl : H c = some (.lst (ns.map V.int))
  ln : ns.length ≤ 63
/-- all but d stands as it stood -/
def Keep (d : Addr) (H H' : Hp) : Prop := ∀ b o, b ≠ d → H b = some o → H' b = some o
theorem Keep.refl (d : Addr) (H : Hp) : Keep d H H := fun _ _ _ h => h
theorem Keep.trans {d : Addr} {H H1 H2 : Hp} (a : Keep d H H1) (b : Keep d H1 H2) : Keep d H H2 := fun x o n h => b x o n (a x o n h)
theorem Keep.new {d p : Addr} {H : Hp} {o : HO} (h : H p = none) : Keep d H (upd H p o) := fun b x _ e => by
  rw [upd_ne (ne_of_none e h)]
  exact e
theorem Keep.put {d : Addr} {H : Hp} {o : HO} : Keep d H (upd H d o) := fun b x n e => by
  rw [upd_ne n]
  exact e
theorem Feed.ne {H : Hp} {d c : Addr} {ns : List Int} {n : Nat} (F : Feed H d c ns n) : c ≠ d := by
  obtain ⟨⟨l, _, h⟩, hc, _⟩ := F
  exact ne_of hc h (by intro z; cases z)
theorem Feed.new {H : Hp} {d c p : Addr} {ns : List Int} {n : Nat} {o : HO} (F : Feed H d c ns n) (h : H p = none) : Feed (upd H p o) d c ns n := by
  obtain ⟨⟨l, l0, e⟩, hc, hl⟩ := F
  exact ⟨⟨l, l0, by rw [upd_ne (ne_of_none e h)]; exact e⟩, by rw [upd_ne (ne_of_none hc h)]; exact hc, hl⟩
theorem Feed.put {H : Hp} {d c : Addr} {ns : List Int} {n m : Nat} {l : Int} (F : Feed H d c ns n) (h : 0 ≤ l) : Feed (upd H d (.dK (fk c m l))) d c ns m :=
  ⟨⟨l, h, upd_same⟩, by rw [upd_ne F.ne]; exact F.cl, F.ln⟩
structure Txt (mg : Str → Option Value) : Prop where
  int : mg "int" = none
  len : mg "len" = none
  abs : mg "abs" = none
  range : mg "range" = none
  tuple : mg "tuple" = none
  list : mg "list" = none
  str : mg "str" = none
  bool : mg "bool" = none
  isinstance : mg "isinstance" = none
  all : mg "all" = none
  any : mg "any" = none
  min : mg "min" = none
  sum : mg "sum" = none
  zip : mg "zip" = none
  max : mg "max" = none
  dict : mg "dict" = none
  OverflowError : mg "OverflowError" = none
/-- a def of the top: where it stands, and how its arguments bind -/
structure DefAt (K : PySem.W.Frag) (mg : Str → Option Value) (x : Str) (st : Stmt) (ps : List Str) (f : Addr) (fd : FuncData) : Prop where
  F : Fun K x x st f fd
  M : mg x = some (.ref f)
  B : Binds K fd ps []
/-! ### draw -/
def spDraw : Sp := fun vs H Q _ => ∃ (d c : Addr) (ns : List Int) (n : Nat) (m : Int), vs = [.ref d, .int m] ∧ Feed H d c ns n ∧ n < 1000000000 ∧ 0 < m ∧ m < 1073741824 ∧
  ∀ (r : Int) (H' : Hp) (n' : Nat), 0 ≤ r → r < m → n' ≤ n + 1 → Feed H' d c ns n' → Keep d H H' → Q (.int r) H'
theorem dpInts {K : PySem.W.Frag} {H : Hp} : ∀ ns : List Int, DpAll K H (ns.map V.int) (ns.map PyData.int)
  | [] => .nil
  | n :: r => .cons (.int n) (dpInts r)
theorem shInts : ∀ ns : List Int, SeqAt.shaped (.list (ns.map PyData.int)) = true
  | [] => rfl
  | n :: r => shInts r
theorem map_int {ns : List Int} {i : Nat} {v : V} (h : (ns.map V.int)[i]? = some v) : ∃ z, v = .int z := by
  rw [List.getElem?_map] at h
  cases e : ns[i]? with
  | none => rw [e] at h; cases h
  | some z => rw [e] at h; exact ⟨z, (Option.some.inj h).symm⟩
theorem fdiv_nn {a b : Int} (ha : 0 ≤ a) (hb : 0 < b) : 0 ≤ a.fdiv b := by
  rw [Int.fdiv_eq_ediv_of_nonneg a (Int.le_of_lt hb)]
  exact Int.ediv_nonneg ha (Int.le_of_lt hb)
theorem fmod_lo (a : Int) {b : Int} (hb : 0 < b) : 0 ≤ a.fmod b := by
  rw [Int.fmod_eq_emod_of_nonneg a (Int.le_of_lt hb)]
  exact Int.emod_nonneg a (by omega)
theorem fmod_hi (a : Int) {b : Int} (hb : 0 < b) : a.fmod b < b := by
  rw [Int.fmod_eq_emod_of_nonneg a (Int.le_of_lt hb)]
  exact Int.emod_lt_of_pos a hb
theorem atI_of {xs : List V} {i : Int} (h0 : 0 ≤ i) (h1 : i < xs.length) : ∃ v, xs[i.toNat]? = some v ∧ atI xs i = some v := by
  have h : i.toNat < xs.length := by omega
  refine ⟨xs[i.toNat], List.getElem?_eq_getElem h, ?_⟩
  have e : atI xs ((i.toNat : Nat) : Int) = some xs[i.toNat] := atI_nat (List.getElem?_eq_getElem h)
  rwa [Int.toNat_of_nonneg h0] at e
theorem prime_at (i : Int) (h0 : 0 ≤ i) (h1 : i < 5) : ∃ q : Int, atI ([.int 2147483629, .int 2147483647, .int 2147483587, .int 2147483563, .int 2147483579] : List V) i = some (.int q) ∧ 2147483563 ≤ q ∧ q ≤ 2147483647 := by
  have h : i = 0 ∨ i = 1 ∨ i = 2 ∨ i = 3 ∨ i = 4 := by omega
  rcases h with rfl | rfl | rfl | rfl | rfl
  · exact ⟨_, rfl, by decide, by decide⟩
  · exact ⟨_, rfl, by decide, by decide⟩
  · exact ⟨_, rfl, by decide, by decide⟩
  · exact ⟨_, rfl, by decide, by decide⟩
  · exact ⟨_, rfl, by decide, by decide⟩
theorem scDraw : FnScope ["_law_feed_here", "_law_many", "_law_digit", "_law_at", "_law_cell", "_law_primes", "_law_prime", "_law_mixed"] ["_law_feed_here", "_law_many"] (defScope sDraw) :=
  ⟨rfl, rfl, rfl, by decide +kernel, rfl, by decide +kernel, by decide +kernel⟩
section
variable {P : Program} {w : World} {K : PySem.W.Frag} {mg : Str → Option Value} {base : Heap}
theorem ok_draw {f : Addr} {fd : FuncData} (F : Fun K "_law_draw" "_law_draw" sDraw f fd) (T : Txt mg) : FnOk P w K mg base CX0 1 f fd ["_law_feed_here", "_law_many"] spDraw := by
  refine F.ok scDraw (fun vs H Q E h => ?_) (fun cdv A outer s H vs Q E hr h => ?_)
  · obtain ⟨d, c, ns, n, m, rfl, _⟩ := h
    rfl
  · obtain ⟨d, c, ns, n, m, rfl, FD, hn, hm0, hm, k⟩ := h
    have hu := hu_of hr
    have nd := scDraw.nd
    obtain ⟨⟨l, l0, hd⟩, hc, hl⟩ := id FD
    refine ⟨_, (pss_cons (ps_if (pt_cmpR op_gt (pe_dget hu (pv 0) pe_str (fun _ _ => rfl)) pe_int (nomark _))
      (pss_cons (ps_set (i := 2) nd rfl (.inl rfl) (pe_op op_modN (pe_callTy call_int1 (by rfl) T.int (by decide +kernel) (pa_cons (pe_dget hu (pv 0) pe_str (fun _ _ => rfl)) pa_nil)) (pv 1)))
    (pss_cons (ps_dput hu (pv 0) pe_str (pe_op op_fdivN (pe_dget hu (pv 0) pe_str (fun _ _ => rfl)) (pv 1)) rfl)
    (pss_one (ps_ret (pv 2)))))
      pss_nil)
    (pss_cons (ps_set (i := 3) nd rfl (.inl rfl) (pe_dget hu (pv 0) pe_str (fun _ _ => rfl)))
    (pss_cons (ps_dput hu (pv 0) pe_str (pe_op op_add (pv 3) pe_int) rfl)
    (pss_cons (ps_set (i := 4) nd rfl (.inl rfl) (pe_op op_add (pe_op op_mul pe_int (pv 3)) pe_int))
    (C8.pss_cut (ps_if (pt_cmpR (op_neD hr.units) (pe_dget hu (pv 0) pe_str (fun _ _ => rfl)) (pe_lst pa_nil) (nomark _))
      (pss_one (ps_set (i := 4) nd rfl (.inl rfl) (pe_ix ix_list (pe_dget hu (pv 0) pe_str (fun _ _ => rfl)) (pe_op op_modN (pe_callTy call_int1 (by rfl) T.int (by decide +kernel) (pa_cons (pv 3) pa_nil)) (pe_callB call_len_seq (by rfl) T.len (by decide +kernel) (pa_cons (pe_dget hu (pv 0) pe_str (fun _ _ => rfl)) pa_nil))) (fun _ _ => rfl))))
      pss_nil)
    (C8.pss_cut (ps_if (PW.pt (pw_and (pt_cmpR op_lt (pv 3) (pe_callB call_len_seq (by rfl) T.len (by decide +kernel) (pa_cons (pe_dget hu (pv 0) pe_str (fun _ _ => rfl)) pa_nil)) (nomark _)) (pw_and1 (pt_cmpR op_ge (pe_callB call_abs (by rfl) T.abs (by decide +kernel) (pa_cons (pv 4) pa_nil)) (pe_op op_pow pe_int pe_int) (nomark _)))))
      (pss_cons (ps_dput hu (pv 0) pe_str (pe_op op_fdivN (pe_op op_sub (pe_callB call_abs (by rfl) T.abs (by decide +kernel) (pa_cons (pv 4) pa_nil)) (pe_op op_pow pe_int pe_int)) (pv 1)) rfl)
    (pss_one (ps_ret (pe_op op_modN (pe_op op_sub (pe_callB call_abs (by rfl) T.abs (by decide +kernel) (pa_cons (pv 4) pa_nil)) (pe_op op_pow pe_int pe_int)) (pv 1)))))
      pss_nil)
    (pss_cons (ps_set (i := 5) nd rfl (.inl rfl) (pe_lst (pa_cons pe_int (pa_cons pe_int (pa_cons pe_int (pa_cons pe_int (pa_cons pe_int pa_nil)))))))
    (pss_cons (ps_set (i := 6) nd rfl (.inl rfl) (pe_ix ix_list (pv 5) (pe_op op_modN (pe_callTy call_int1 (by rfl) T.int (by decide +kernel) (pa_cons (pv 3) pa_nil)) pe_int) (fun _ _ => rfl)))
    (pss_cons (ps_set (i := 7) nd rfl (.inl rfl) (pe_op op_modN (pe_callTy call_int1 (by rfl) T.int (by decide +kernel) (pa_cons (pe_op op_add (pe_op op_add (pe_op op_add (pe_op op_mul (pe_op op_modN (pe_callTy call_int1 (by rfl) T.int (by decide +kernel) (pa_cons (pv 4) pa_nil)) (pv 6)) pe_int) (pe_op op_mul (pe_op op_mul pe_int (pv 3)) (pv 3))) (pe_op op_mul pe_int (pv 3))) pe_int) pa_nil)) (pv 6)))
    (pss_cons (ps_set (i := 7) nd rfl (.inl rfl) (pe_op op_modN (pe_callTy call_int1 (by rfl) T.int (by decide +kernel) (pa_cons (pe_op op_mul (pv 7) (pe_op op_add (pv 7) pe_int)) pa_nil)) (pe_ix ix_list (pv 5) (pe_op op_modN (pe_callTy call_int1 (by rfl) T.int (by decide +kernel) (pa_cons (pe_op op_add (pv 3) pe_int) pa_nil)) pe_int) (fun _ _ => rfl))))
    (pss_one (ps_ret (pe_op op_modN (pe_callTy call_int1 (by rfl) T.int (by decide +kernel) (pa_cons (pe_op op_fdivN (pe_op op_modN (pe_callTy call_int1 (by rfl) T.int (by decide +kernel) (pa_cons (pe_op op_mul (pv 7) (pv 7)) pa_nil)) pe_int) pe_int) pa_nil)) (pv 1)))))))))))))), ?_⟩
    have gL : DGet H d (.str "left") (some (.int l)) := by
      have := DGet.k (k := kL) hd
      rwa [fk_left] at this
    -- if feed['left'] > 0
    refine ⟨.ref d, rfl, d, _, rfl, gL, _, _, rfl, rfl, _, rfl, ite2 (fun hpos => ?_) (fun hneg => ?_)⟩
    · have lpos : 0 < l := of_decide_eq_true hpos
      refine ⟨.ref d, rfl, d, _, rfl, gL, .inl ⟨_, rfl, .int m, rfl, _, _, rfl, rfl, (by omega), ?_⟩⟩
      refine ⟨.ref d, rfl, d, _, rfl, gL, .int m, rfl, _, _, rfl, rfl, ⟨by omega, by omega⟩, .ref d, rfl, d, _, rfl, DPut.k (k := kL) hd (small1000 (by show 3 ≤ 1000; decide)), ?_⟩
      refine ⟨_, rfl, ?_⟩
      rw [fk_put_left]
      exact k _ _ n (fmod_lo l hm0) (fmod_hi l hm0) (by omega) (FD.put (fdiv_nn l0 hm0)) Keep.put
    · -- at = feed['at'] ..
      have gA : DGet H d (.str "at") (some (.int n)) := by
        have := DGet.k (k := kA) hd
        rwa [fk_at] at this
      refine ⟨.ref d, rfl, d, _, rfl, gA, ?_⟩
      refine ⟨.int n, rfl, _, _, rfl, rfl, .ref d, rfl, d, _, rfl, DPut.k (k := kA) hd (small1000 (by show 3 ≤ 1000; decide)), ?_⟩
      rw [fk_put_at]
      have F1 : Feed (upd H d (.dK (fk c ((n + 1 : Nat) : Int) l))) d c ns (n + 1) := FD.put l0
      have K1 : Keep d H (upd H d (.dK (fk c ((n + 1 : Nat) : Int) l))) := Keep.put
      rw [show ((n : Int) + 1) = ((n + 1 : Nat) : Int) by omega]
      generalize upd H d (.dK (fk c ((n + 1 : Nat) : Int) l)) = H1 at F1 K1 ⊢
      clear hneg gA gL hd
      obtain ⟨⟨l1, l10, hd⟩, hc1, _⟩ := id F1
      have gC : DGet H1 d (.str "cells") (some (.ref c)) := by
        have := DGet.k (k := kC) hd
        rwa [fk_cells] at this
      -- cell = 37 * at + 11
      refine ⟨.int n, rfl, _, _, rfl, rfl, .inl ⟨by decide, by decide⟩, _, _, rfl, rfl, ?_⟩
      -- if cells != []: cell = ..
      refine ⟨fun σ H2 => ∃ z : Int, σ = [some (.ref d), some (.int m), none, some (.int n), some (.int z), none, none, none] ∧ Feed H2 d c ns (n + 1) ∧ Keep d H H2, ?_, ?_⟩
      · refine ⟨.ref d, rfl, d, _, rfl, gC, Nat.zero_le _, fun p np => ?_⟩
        have F2 := F1.new (o := .lst []) np
        have K2 := K1.trans (Keep.new (d := d) (o := .lst []) np)
        have hp2 : (upd H1 p (.lst [])) p = some (.lst []) := upd_same
        generalize upd H1 p (.lst []) = H2 at F2 K2 hp2 ⊢
        obtain ⟨⟨l2, l20, hd2⟩, hc2, _⟩ := id F2
        have gC2 : DGet H2 d (.str "cells") (some (.ref c)) := by
          have := DGet.k (k := kC) hd2
          rwa [fk_cells] at this
        refine ⟨.list (ns.map PyData.int), .list [], .lst (.inl (.inl hc2)) (dpInts ns), .lst (.inl (.inl hp2)) .nil, shInts ns, rfl, _, rfl, ?_⟩
        cases ns with
        | nil => exact iteF ⟨_, rfl, F2, K2⟩
        | cons z0 zs =>
          refine iteT ?_
          have hlen : 0 < ((z0 :: zs).map V.int).length := by simp
          obtain ⟨v, e1, e2⟩ := atI_of (xs := (z0 :: zs).map V.int) (i := (n : Int).fmod (((z0 :: zs).map V.int).length : Int)) (fmod_lo _ (by omega)) (fmod_hi _ (by omega))
          obtain ⟨z, rfl⟩ := map_int e1
          exact ⟨.ref d, rfl, d, _, rfl, gC2, .int n, rfl, .inl ⟨_, rfl, .ref d, rfl, d, _, rfl, gC2, c, _, rfl, .inl (.inl (.inl hc2)), _, _, rfl, rfl, by omega, c, _, _, _, rfl, rfl, .inl (.inl hc2), e2, z, rfl, F2, K2⟩⟩
      rintro σ H2 ⟨z, rfl, F2, K2⟩
      clear gC hc1 hd K1 F1
      obtain ⟨⟨l2, l20, hd2⟩, hc2, _⟩ := id F2
      have gC2 : DGet H2 d (.str "cells") (some (.ref c)) := by
        have := DGet.k (k := kC) hd2
        rwa [fk_cells] at this
      -- if at < len(cells) and abs(cell) >= 10 ** 18
      refine ⟨fun σ H3 => σ = [some (.ref d), some (.int m), none, some (.int n), some (.int z), none, none, none] ∧ Feed H3 d c ns (n + 1) ∧ Keep d H H3, ?_, ?_⟩
      · have habs : 0 ≤ (if z < 0 then -z else z) := by split <;> omega
        refine ⟨.int n, rfl, .ref d, rfl, d, _, rfl, gC2, c, _, rfl, .inl (.inl (.inl hc2)), _, _, rfl, rfl, _, rfl, ?_⟩
        refine ite2 (fun _ => ?_) (fun hlt => ?_)
        · refine ⟨.int z, rfl, z, rfl, _, _, rfl, rfl, ⟨by decide, by decide, by decide⟩, _, _, rfl, rfl, _, rfl, ?_⟩
          refine ite2 (fun hge => ?_) (fun hlt => ?_)
          · have h10 : (10 : Int) ^ (18 : Int).toNat ≤ (if z < 0 then -z else z) := of_decide_eq_true hge
            have hnn : 0 ≤ (if z < 0 then -z else z) - (10 : Int) ^ (18 : Int).toNat := by omega
            refine ⟨.int z, rfl, z, rfl, _, _, rfl, rfl, ⟨by decide, by decide, by decide⟩, _, _, rfl, rfl, .int m, rfl, _, _, rfl, rfl, ⟨by omega, by omega⟩, .ref d, rfl, d, _, rfl, DPut.k (k := kL) hd2 (small1000 (by show 3 ≤ 1000; decide)), ?_⟩
            rw [fk_put_left]
            refine ⟨.int z, rfl, z, rfl, _, _, rfl, rfl, ⟨by decide, by decide, by decide⟩, _, _, rfl, rfl, .int m, rfl, _, _, rfl, rfl, by omega, ?_⟩
            exact k _ _ (n + 1) (fmod_lo _ hm0) (fmod_hi _ hm0) (by omega) (F2.put (fdiv_nn hnn hm0)) (K2.trans Keep.put)
          · exact ⟨rfl, F2, K2⟩
        · exact iteF ⟨rfl, F2, K2⟩
      rintro σ H3 ⟨rfl, F3, K3⟩
      clear gC2 hc2 hd2 F2 K2
      -- primes
      refine ⟨by show 5 ≤ sizeLine; decide, fun p np => ?_⟩
      have F4 := F3.new (o := .lst [.int 2147483629, .int 2147483647, .int 2147483587, .int 2147483563, .int 2147483579]) np
      have K4 := K3.trans (Keep.new (d := d) (o := .lst [.int 2147483629, .int 2147483647, .int 2147483587, .int 2147483563, .int 2147483579]) np)
      have hp4 : (upd H3 p (.lst [.int 2147483629, .int 2147483647, .int 2147483587, .int 2147483563, .int 2147483579])) p = some (.lst [.int 2147483629, .int 2147483647, .int 2147483587, .int 2147483563, .int 2147483579]) := upd_same
      generalize upd H3 p (.lst [.int 2147483629, .int 2147483647, .int 2147483587, .int 2147483563, .int 2147483579]) = H4 at F4 K4 hp4 ⊢
      obtain ⟨q1, a1, lo1, hi1⟩ := prime_at ((n : Int).fmod 5) (fmod_lo _ (by decide)) (fmod_hi _ (by decide))
      obtain ⟨q2, a2, lo2, hi2⟩ := prime_at (((n : Int) + 2).fmod 5) (fmod_lo _ (by decide)) (fmod_hi _ (by decide))
      -- prime = primes[int(at) % 5]
      refine ⟨.ref p, rfl, .int n, rfl, .inl ⟨_, rfl, _, _, rfl, rfl, (by show (5 : Int) ≠ 0; decide), p, _, _, _, rfl, rfl, .inl (.inl hp4), a1, ?_⟩⟩
      obtain ⟨y0, hy0⟩ : ∃ y, y = z.fmod q1 := ⟨_, rfl⟩
      have m1l : 0 ≤ y0 := by rw [hy0]; exact fmod_lo z (by omega)
      have m1h : y0 < q1 := by rw [hy0]; exact fmod_hi z (by omega)
      obtain ⟨x1, hx1⟩ : ∃ x, x = y0 * 48271 + 40699 * (n : Int) * (n : Int) + 69621 * (n : Int) + 7 := ⟨_, rfl⟩
      obtain ⟨y1, hy1⟩ : ∃ y, y = x1.fmod q1 := ⟨_, rfl⟩
      have m2l : 0 ≤ y1 := by rw [hy1]; exact fmod_lo x1 (by omega)
      have m2h : y1 < q1 := by rw [hy1]; exact fmod_hi x1 (by omega)
      obtain ⟨x2, hx2⟩ : ∃ x, x = y1 * (y1 + 16807) := ⟨_, rfl⟩
      obtain ⟨y2, hy2⟩ : ∃ y, y = x2.fmod q2 := ⟨_, rfl⟩
      have m3l : 0 ≤ y2 := by rw [hy2]; exact fmod_lo x2 (by omega)
      have m3h : y2 < q2 := by rw [hy2]; exact fmod_hi x2 (by omega)
      refine ⟨.int z, rfl, .inl ⟨_, rfl, .int q1, rfl, _, _, rfl, rfl, (by show q1 ≠ 0; omega), y0, _, hy0 ▸ rfl, rfl, .inr ⟨by decide, by decide⟩, .int n, rfl, _, _, rfl, rfl, .inl ⟨by decide, by decide⟩, .int n, rfl, _, n, rfl, rfl, .inr ⟨by omega, by omega⟩,
        _, _, rfl, rfl, .int n, rfl, _, _, rfl, rfl, .inl ⟨by decide, by decide⟩, _, _, rfl, rfl, _, _, rfl, rfl, .inl ⟨x1, hx1 ▸ rfl, .int q1, rfl, _, _, rfl, rfl, (by show q1 ≠ 0; omega), ?_⟩⟩⟩
      refine ⟨.int y1, hy1 ▸ rfl, .int y1, hy1 ▸ rfl, y1, _, rfl, rfl, y1, y1 + 16807, rfl, rfl, .inl ⟨by omega, by omega⟩, .inl ⟨x2, hx2 ▸ rfl, .ref p, rfl, .int n, rfl, _, _, rfl, rfl, .inl ⟨_, rfl, _, _, rfl, rfl, (by show (5 : Int) ≠ 0; decide), p, _, _, _, rfl, rfl, .inl (.inl hp4), a2, _, q2, rfl, rfl, (by show q2 ≠ 0; omega), ?_⟩⟩⟩
      refine ⟨.int y2, hy2 ▸ rfl, .int y2, hy2 ▸ rfl, y2, y2, rfl, rfl, .inl ⟨by omega, by omega⟩, .inl ⟨_, rfl, _, _, rfl, rfl, (by show (2147483549 : Int) ≠ 0; decide), _, _, rfl, rfl, ⟨(by decide), (by decide)⟩, .inl ⟨_, rfl, .int m, rfl, _, m, rfl, rfl, (by show m ≠ 0; omega), ?_⟩⟩⟩
      exact k _ _ (n + 1) (fmod_lo _ hm0) (fmod_hi _ hm0) (by omega) F4 K4
/-! ### pick -/
def spPickL : Sp := fun vs H Q _ => ∃ (d c : Addr) (ns : List Int) (n : Nat) (a : Addr) (xs : List V), vs = [.ref d, .ref a] ∧ Feed H d c ns n ∧ n < 1000000000 ∧ H a = some (.lst xs) ∧ 0 < xs.length ∧ xs.length < 1000000 ∧
  ∀ (x : V) (H' : Hp) (n' : Nat), x ∈ xs → n' ≤ n + 1 → Feed H' d c ns n' → Keep d H H' → Q x H'
def spPickS : Sp := fun vs H Q _ => ∃ (d c : Addr) (ns : List Int) (n : Nat) (z : Str), vs = [.ref d, .str z] ∧ Feed H d c ns n ∧ n < 1000000000 ∧ 0 < z.cps.toList.length ∧ z.cps.toList.length < 10000 ∧
  ∀ (x : Nat) (H' : Hp) (n' : Nat), x ∈ z.cps.toList → n' ≤ n + 1 → Feed H' d c ns n' → Keep d H H' → Q (.str ⟨#[x]⟩) H'
theorem scPick : FnScope ["_law_feed_here", "_law_options"] ["_law_feed_here", "_law_options"] (defScope sPick) := ⟨rfl, rfl, rfl, by decide +kernel, rfl, by decide +kernel, by decide +kernel⟩
theorem ok_pickL {f fD : Addr} {fd fdD : FuncData} (F : Fun K "_law_pick" "_law_pick" sPick f fd) (T : Txt mg) (D : DefAt K mg "_law_draw" sDraw ["_law_feed_here", "_law_many"] fD fdD) : FnOk P w K mg base CX0 2 f fd ["_law_feed_here", "_law_options"] spPickL := by
  have GD : FnOk P w K mg base CX0 1 fD fdD ["_law_feed_here", "_law_many"] spDraw := ok_draw D.F T
  refine F.ok scPick (fun vs H Q E h => ?_) (fun cdv A outer s H vs Q E hr h => ?_)
  · obtain ⟨d, c, ns, n, a, xs, rfl, _⟩ := h
    rfl
  · obtain ⟨d, c, ns, n, a, xs, rfl, FD, hn, ha, h0, hm, k⟩ := h
    have hu := hu_of hr
    have nd := scPick.nd
    refine ⟨_, (pss_one (ps_ret (pe_ix ix_list (pv 1) (pe_call GD (hr.mono (by decide)) (by rfl) D.M D.F.kp D.B .nil pass0 (pa_cons (pv 0) (pa_cons (pe_callB call_len_seq (by rfl) T.len (by decide +kernel) (pa_cons (pv 1) pa_nil)) pa_nil))) (fun _ _ => rfl)))), ?_⟩
    refine ⟨.ref a, rfl, .ref d, rfl, .ref a, rfl, a, xs, rfl, .inl (.inl (.inl ha)), ?_⟩
    refine ⟨d, c, ns, n, _, rfl, FD, hn, (by omega), (by omega), fun r H' n' r0 r1 hn' F' K' => ?_⟩
    have ha' : H' a = some (.lst xs) := K' _ _ (fun e => by
      obtain ⟨l, _, hd⟩ := FD.fd
      rw [e, hd] at ha
      cases ha) ha
    obtain ⟨v, e1, e2⟩ := atI_of r0 r1
    exact ⟨a, xs, r, v, rfl, rfl, .inl (.inl ha'), e2, k v H' n' (List.mem_of_getElem? e1) hn' F' K'⟩
theorem ok_pickS {f fD : Addr} {fd fdD : FuncData} (F : Fun K "_law_pick" "_law_pick" sPick f fd) (T : Txt mg) (D : DefAt K mg "_law_draw" sDraw ["_law_feed_here", "_law_many"] fD fdD) : FnOk P w K mg base CX0 2 f fd ["_law_feed_here", "_law_options"] spPickS := by
  have GD : FnOk P w K mg base CX0 1 fD fdD ["_law_feed_here", "_law_many"] spDraw := ok_draw D.F T
  refine F.ok scPick (fun vs H Q E h => ?_) (fun cdv A outer s H vs Q E hr h => ?_)
  · obtain ⟨d, c, ns, n, z, rfl, _⟩ := h
    rfl
  · obtain ⟨d, c, ns, n, z, rfl, FD, hn, h0, hm, k⟩ := h
    have hu := hu_of hr
    have nd := scPick.nd
    have ez : z.length = z.cps.toList.length := rfl
    refine ⟨_, (pss_one (ps_ret (pe_item_str (pv 1) (pe_call GD (hr.mono (by decide)) (by rfl) D.M D.F.kp D.B .nil pass0 (pa_cons (pv 0) (pa_cons (pe_callB call_len_str (by rfl) T.len (by decide +kernel) (pa_cons (pv 1) pa_nil)) pa_nil))) (fun _ _ => rfl)))), ?_⟩
    refine ⟨.str z, rfl, .ref d, rfl, .str z, rfl, z, rfl, (by rw [ez]; exact Nat.le_of_lt (Nat.lt_of_lt_of_le hm (by decide))), ?_⟩
    refine ⟨d, c, ns, n, _, rfl, FD, hn, (by omega), (by omega), fun r H' n' r0 r1 hn' F' K' => ?_⟩
    have hlt : r.toNat < z.cps.size := by
      have : z.cps.size = z.cps.toList.length := rfl
      omega
    refine ⟨z, r, z.cps[r.toNat], rfl, rfl, r0, by omega, by omega, Array.getElem?_eq_getElem hlt, ?_⟩
    exact k _ H' n' (Array.getElem_mem_toList hlt) hn' F' K'
/-! ### data at an address -/
def kD : Key → PyData
  | .inl i => .int i
  | .inr s => .str s
mutual
/-- v is the datum x; none of its objects is in X -/
inductive DV (X : Addr → Prop) (H : Hp) : V → PyData → Prop
  | non : DV X H .non .none
  | bl (b : Bool) : DV X H (.bl b) (.bool b)
  | int (i : Int) : DV X H (.int i) (.int i)
  | str (x : Str) : DV X H (.str x) (.str x)
  | lst {a : Addr} {xs : List V} {ds : List PyData} : ¬ X a → H a = some (.lst xs) → DVs X H xs ds → DV X H (.ref a) (.list ds)
  | tup {a : Addr} {xs : List V} {ds : List PyData} : ¬ X a → H a = some (.tup xs) → DVs X H xs ds → DV X H (.ref a) (.tuple ds)
  | dic {a : Addr} {kvs : List (Key × V)} {ds : List (PyData × PyData)} : ¬ X a → H a = some (.dK kvs) → DVk X H kvs ds → DV X H (.ref a) (.dict ds)
inductive DVs (X : Addr → Prop) (H : Hp) : List V → List PyData → Prop
  | nil : DVs X H [] []
  | cons {v : V} {r : List V} {x : PyData} {ds : List PyData} : DV X H v x → DVs X H r ds → DVs X H (v :: r) (x :: ds)
inductive DVk (X : Addr → Prop) (H : Hp) : List (Key × V) → List (PyData × PyData) → Prop
  | nil : DVk X H [] []
  | cons {k : Key} {v : V} {r : List (Key × V)} {x : PyData} {ds : List (PyData × PyData)} : DV X H v x → DVk X H r ds → DVk X H ((k, v) :: r) ((kD k, x) :: ds)
end
mutual
theorem DV.keep {X Y : Addr → Prop} {H H' : Hp} (K : ∀ b o, ¬ X b → H b = some o → H' b = some o ∧ ¬ Y b) : ∀ {v : V} {x : PyData}, DV X H v x → DV Y H' v x
  | _, _, .non => .non
  | _, _, .bl b => .bl b
  | _, _, .int i => .int i
  | _, _, .str x => .str x
  | _, _, .lst n h r => .lst (K _ _ n h).2 (K _ _ n h).1 (DVs.keep K r)
  | _, _, .tup n h r => .tup (K _ _ n h).2 (K _ _ n h).1 (DVs.keep K r)
  | _, _, .dic n h r => .dic (K _ _ n h).2 (K _ _ n h).1 (DVk.keep K r)
theorem DVs.keep {X Y : Addr → Prop} {H H' : Hp} (K : ∀ b o, ¬ X b → H b = some o → H' b = some o ∧ ¬ Y b) : ∀ {v : List V} {x : List PyData}, DVs X H v x → DVs Y H' v x
  | _, _, .nil => .nil
  | _, _, .cons h r => .cons (DV.keep K h) (DVs.keep K r)
theorem DVk.keep {X Y : Addr → Prop} {H H' : Hp} (K : ∀ b o, ¬ X b → H b = some o → H' b = some o ∧ ¬ Y b) : ∀ {v : List (Key × V)} {x : List (PyData × PyData)}, DVk X H v x → DVk Y H' v x
  | _, _, .nil => .nil
  | _, _, .cons h r => .cons (DV.keep K h) (DVk.keep K r)
end
theorem DVs.mem {X : Addr → Prop} {H : Hp} {v : V} : ∀ {xs : List V} {ds : List PyData}, DVs X H xs ds → v ∈ xs → ∃ x, x ∈ ds ∧ DV X H v x
  | _, _, .nil, h => by cases h
  | _, _, .cons h r, hm => by
    rcases List.mem_cons.mp hm with rfl | hm
    · exact ⟨_, List.mem_cons_self .., h⟩
    · obtain ⟨x, hx, hd⟩ := DVs.mem r hm
      exact ⟨x, List.mem_cons_of_mem _ hx, hd⟩
theorem DVs.append {X : Addr → Prop} {H : Hp} : ∀ {xs ys : List V} {ds es : List PyData}, DVs X H xs ds → DVs X H ys es → DVs X H (xs ++ ys) (ds ++ es)
  | _, _, _, _, .nil, s => s
  | _, _, _, _, .cons h r, s => .cons h (DVs.append r s)
theorem DVs.length {X : Addr → Prop} {H : Hp} : ∀ {xs : List V} {ds : List PyData}, DVs X H xs ds → xs.length = ds.length
  | _, _, .nil => rfl
  | _, _, .cons _ r => by simp [DVs.length r]
theorem dvs_init {X : Addr → Prop} {H : Hp} : ∀ {xs : List V} {v : V} {ds es : List PyData}, es.length = 1 → DVs X H (xs ++ [v]) (ds ++ es) → DVs X H xs ds
  | [], v, ds, es, he, h => by
    cases ds with
    | nil => exact .nil
    | cons d r =>
      have := h.length
      simp only [List.length_append, List.length_cons, List.length_nil, List.nil_append, List.cons_append] at this
      omega
  | x :: r, v, ds, es, he, h => by
    cases ds with
    | nil =>
      have := h.length
      simp only [List.length_append, List.length_cons, List.length_nil, List.nil_append, List.cons_append] at this
      omega
    | cons d s =>
      cases h with
      | cons h1 h2 => exact .cons h1 (dvs_init he h2)
/-- not tracked in H -/
def Old (H : Hp) : Addr → Prop := fun a => H a ≠ none
theorem old_of {H : Hp} {a : Addr} {o : HO} (h : H a = some o) : Old H a := fun e => by rw [h] at e; cases e
theorem Keep.free {d p : Addr} {H H' : Hp} (K : Keep d H H') (nd : p ≠ d) (h : H' p = none) : ¬ Old H p := fun e => by
  cases q : H p with
  | none => exact e q
  | some o => rw [K _ _ nd q] at h; cases h
theorem Keep.old {d : Addr} {H H' : Hp} (K : Keep d H H') {X : Addr → Prop} (hX : X d) : ∀ b o, ¬ X b → H b = some o → H' b = some o ∧ ¬ X b :=
  fun b o n e => ⟨K b o (fun z => n (z ▸ hX)) e, n⟩
theorem Feed.old {H : Hp} {d c : Addr} {ns : List Int} {n : Nat} (F : Feed H d c ns n) : Old H d := by
  obtain ⟨l, _, hd⟩ := F.fd
  exact old_of hd
theorem Old.mono {d : Addr} {H H' : Hp} (K : Keep d H H') {X : Addr → Prop} (hd : Old H' d) {a : Addr} (h : Old H a) : Old H' a := by
  by_cases e : a = d
  · rw [e]; exact hd
  · cases q : H a with
    | none => exact absurd q h
    | some o => exact old_of (K _ _ e q)
/-! ### a new object -/
theorem Feed.nd {H : Hp} {d c p : Addr} {ns : List Int} {n : Nat} (F : Feed H d c ns n) (h : H p = none) : p ≠ d := fun e => by
  obtain ⟨l, _, hd⟩ := F.fd
  rw [e, hd] at h
  cases h
theorem nu {H : Hp} {d c p : Addr} {ns : List Int} {n : Nat} (F : Feed H d c ns n) (np : H p = none) :
    ∃ U : HO → Hp, (∀ o, upd H p o = U o) ∧ (∀ o, Feed (U o) d c ns n) ∧ (∀ o, Keep d H (U o)) ∧ (∀ o, U o p = some o) ∧ p ≠ d :=
  ⟨fun o => upd H p o, fun _ => rfl, fun _ => F.new np, fun _ => Keep.new np, fun _ => upd_same, F.nd np⟩
/-- an object that was laid anew is filled -/
theorem fu {Ha Hc : Hp} {d c p : Addr} {ns : List Int} {n : Nat} (F : Feed Hc d c ns n) (np : Ha p = none) (K : ∀ b o, b ≠ d → b ≠ p → Ha b = some o → Hc b = some o) (nd : p ≠ d) (npc : p ≠ c) :
    ∃ U : HO → Hp, (∀ o, upd Hc p o = U o) ∧ (∀ o, Feed (U o) d c ns n) ∧ (∀ o, Keep d Ha (U o)) ∧ (∀ o, U o p = some o) ∧ ∀ o b, b ≠ p → U o b = Hc b := by
  refine ⟨fun o => upd Hc p o, fun _ => rfl, fun o => ?_, fun o => (fun b x nb e => ?_), fun _ => upd_same, fun o b nb => upd_ne nb⟩
  · obtain ⟨⟨l, l0, e⟩, hc, hl⟩ := F
    exact ⟨⟨l, l0, Eq.trans (upd_ne nd.symm) e⟩, Eq.trans (upd_ne npc.symm) hc, hl⟩
  · have nbp : b ≠ p := ne_of_none e np
    exact Eq.trans (upd_ne nbp) (K b x nb nbp e)
theorem Feed.nc {H : Hp} {d c p : Addr} {ns : List Int} {n : Nat} (F : Feed H d c ns n) (h : H p = none) : p ≠ c := fun e => by
  rw [e, F.cl] at h
  cases h
theorem Feed.kl {H H' : Hp} {d c a : Addr} {ns : List Int} {n : Nat} {xs : List V} (F : Feed H d c ns n) (K : Keep d H H') (h : H a = some (.lst xs)) : H' a = some (.lst xs) := K _ _ (fun e => by
  obtain ⟨l, _, hd⟩ := F.fd
  rw [e, hd] at h
  cases h) h
/-! ### names and levels -/
def lowB (c : Nat) : Bool := decide (97 ≤ c) && decide (c ≤ 122)
def wordB (z : Str) : Bool := decide (1 ≤ z.cps.toList.length) && decide (z.cps.toList.length ≤ 8) && z.cps.toList.all lowB
def nameD : PyData → Bool
  | .str z => wordB z
  | _ => false
def levelD : PyData → Bool
  | .int _ => true
  | _ => false
def tyD : PyData → String
  | .none => "NoneType"
  | .bool _ => "bool"
  | .int _ => "int"
  | .str _ => "str"
  | .list _ => "list"
  | .tuple _ => "tuple"
  | .dict _ => "dict"
def Sm : PyData → Prop
  | .str z => z.cps.toList.length ≤ 1000 ∧ ∀ c ∈ z.cps.toList, c < 1114112
  | _ => True
theorem DV.ty {X : Addr → Prop} {K : PySem.W.Frag} {H : Hp} {v : V} {x : PyData} (h : DV X H v x) : TyX K H v (.type (tyD x)) := by
  cases h with
  | non => exact .base .non
  | bl b => exact .base (.bl b)
  | int i => exact .base (.int i)
  | str x => exact .base (.str x)
  | lst _ e _ => exact .base (.lst e)
  | tup _ e _ => exact .base (.tup e)
  | dic _ e _ => exact .base (.dK e)
def isstrB : PyData → Bool
  | .str _ => true
  | _ => false
theorem is_strD {K : PySem.W.Frag} : ∀ x : PyData, PySem.W.kitOne K (.type (tyD x)) (.type "str") = some (isstrB x)
  | .none => kit_ty (show kitB "NoneType" "str" = some false by decide +kernel)
  | .bool _ => kit_ty (show kitB "bool" "str" = some false by decide +kernel)
  | .int _ => kit_ty (show kitB "int" "str" = some false by decide +kernel)
  | .str _ => kit_ty (show kitB "str" "str" = some true by decide +kernel)
  | .list _ => kit_ty (show kitB "list" "str" = some false by decide +kernel)
  | .tuple _ => kit_ty (show kitB "tuple" "str" = some false by decide +kernel)
  | .dict _ => kit_ty (show kitB "dict" "str" = some false by decide +kernel)
def isintB : PyData → Bool
  | .bool _ => true
  | .int _ => true
  | _ => false
theorem is_intD {K : PySem.W.Frag} : ∀ x : PyData, PySem.W.kitOne K (.type (tyD x)) (.type "int") = some (isintB x)
  | .none => kit_ty (show kitB "NoneType" "int" = some false by decide +kernel)
  | .bool _ => kit_ty (show kitB "bool" "int" = some true by decide +kernel)
  | .int _ => kit_ty (show kitB "int" "int" = some true by decide +kernel)
  | .str _ => kit_ty (show kitB "str" "int" = some false by decide +kernel)
  | .list _ => kit_ty (show kitB "list" "int" = some false by decide +kernel)
  | .tuple _ => kit_ty (show kitB "tuple" "int" = some false by decide +kernel)
  | .dict _ => kit_ty (show kitB "dict" "int" = some false by decide +kernel)
def isboolB : PyData → Bool
  | .bool _ => true
  | _ => false
theorem is_boolD {K : PySem.W.Frag} : ∀ x : PyData, PySem.W.kitOne K (.type (tyD x)) (.type "bool") = some (isboolB x)
  | .none => kit_ty (show kitB "NoneType" "bool" = some false by decide +kernel)
  | .bool _ => kit_ty (show kitB "bool" "bool" = some true by decide +kernel)
  | .int _ => kit_ty (show kitB "int" "bool" = some false by decide +kernel)
  | .str _ => kit_ty (show kitB "str" "bool" = some false by decide +kernel)
  | .list _ => kit_ty (show kitB "list" "bool" = some false by decide +kernel)
  | .tuple _ => kit_ty (show kitB "tuple" "bool" = some false by decide +kernel)
  | .dict _ => kit_ty (show kitB "dict" "bool" = some false by decide +kernel)
def islistB : PyData → Bool
  | .list _ => true
  | _ => false
theorem is_listD {K : PySem.W.Frag} : ∀ x : PyData, PySem.W.kitOne K (.type (tyD x)) (.type "list") = some (islistB x)
  | .none => kit_ty (show kitB "NoneType" "list" = some false by decide +kernel)
  | .bool _ => kit_ty (show kitB "bool" "list" = some false by decide +kernel)
  | .int _ => kit_ty (show kitB "int" "list" = some false by decide +kernel)
  | .str _ => kit_ty (show kitB "str" "list" = some false by decide +kernel)
  | .list _ => kit_ty (show kitB "list" "list" = some true by decide +kernel)
  | .tuple _ => kit_ty (show kitB "tuple" "list" = some false by decide +kernel)
  | .dict _ => kit_ty (show kitB "dict" "list" = some false by decide +kernel)
def istupleB : PyData → Bool
  | .tuple _ => true
  | _ => false
theorem is_tupleD {K : PySem.W.Frag} : ∀ x : PyData, PySem.W.kitOne K (.type (tyD x)) (.type "tuple") = some (istupleB x)
  | .none => kit_ty (show kitB "NoneType" "tuple" = some false by decide +kernel)
  | .bool _ => kit_ty (show kitB "bool" "tuple" = some false by decide +kernel)
  | .int _ => kit_ty (show kitB "int" "tuple" = some false by decide +kernel)
  | .str _ => kit_ty (show kitB "str" "tuple" = some false by decide +kernel)
  | .list _ => kit_ty (show kitB "list" "tuple" = some false by decide +kernel)
  | .tuple _ => kit_ty (show kitB "tuple" "tuple" = some true by decide +kernel)
  | .dict _ => kit_ty (show kitB "dict" "tuple" = some false by decide +kernel)
def isdictB : PyData → Bool
  | .dict _ => true
  | _ => false
theorem is_dictD {K : PySem.W.Frag} : ∀ x : PyData, PySem.W.kitOne K (.type (tyD x)) (.type "dict") = some (isdictB x)
  | .none => kit_ty (show kitB "NoneType" "dict" = some false by decide +kernel)
  | .bool _ => kit_ty (show kitB "bool" "dict" = some false by decide +kernel)
  | .int _ => kit_ty (show kitB "int" "dict" = some false by decide +kernel)
  | .str _ => kit_ty (show kitB "str" "dict" = some false by decide +kernel)
  | .list _ => kit_ty (show kitB "list" "dict" = some false by decide +kernel)
  | .tuple _ => kit_ty (show kitB "tuple" "dict" = some false by decide +kernel)
  | .dict _ => kit_ty (show kitB "dict" "dict" = some true by decide +kernel)
def spTest (g : PyData → Bool) : Sp := fun vs H Q _ => ∃ (v : V) (x : PyData) (X : Addr → Prop), vs = [v] ∧ DV X H v x ∧ Sm x ∧ ∀ H', Same H H' → Q (.bl (g x)) H'
theorem lt_one (a b : Nat) : decide ([a] < [b]) = decide (a < b) := by
  by_cases h : a < b
  · have : [a] < [b] := List.Lex.rel h
    rw [decide_eq_true this, decide_eq_true h]
  · have : ¬ [a] < [b] := fun z => by
      cases z with
      | rel z => exact h z
      | cons z => cases z
    rw [decide_eq_false this, decide_eq_false h]
theorem chr_a : (Str.ofString "a").cps.toList = [97] := by decide +kernel
theorem chr_z : (Str.ofString "z").cps.toList = [122] := by decide +kernel
theorem not_lt_le (a b : Nat) : (!decide (a < b)) = decide (b ≤ a) := by
  by_cases h : a < b
  · rw [decide_eq_true h, decide_eq_false (by omega)]; rfl
  · rw [decide_eq_false h, decide_eq_true (by omega)]; rfl
theorem new_same {H : Hp} {p : Addr} {o : HO} (h : H p = none) : Same H (upd H p o) := fun b x e => by
  rw [upd_ne (ne_of_none e h)]
  exact e
theorem fill_same {H H' : Hp} {p : Addr} {o : HO} (h : H p = none) (k : ∀ b x, b ≠ p → H b = some x → H' b = some x) : Same H (upd H' p o) := fun b x e => by
  have nb : b ≠ p := ne_of_none e h
  rw [upd_ne nb]
  exact k b x nb e
theorem len_le {z : Str} {k : Nat} (h : z.cps.toList.length ≤ k) (hk : k ≤ 1000) : z.length ≤ sizeLine := by
  have e : z.length = z.cps.toList.length := rfl
  rw [e]
  exact Nat.le_of_lt (small1000 (Nat.le_trans h hk))
theorem scIsName : FnScope ["value", "letter"] ["value"] (defScope sIsName) := ⟨rfl, rfl, rfl, by decide +kernel, rfl, by decide +kernel, by decide +kernel⟩
theorem ok_is_name {f : Addr} {fd : FuncData} {tN : Tok} (F : Fun K "is_name" "is_name" sIsName f fd) (T : Txt mg) (mgLONGEST_NAME : mg "LONGEST_NAME" = some (.int 8 tN)) : FnOk P w K mg base CX0 1 f fd ["value"] (spTest nameD) := by
  refine F.ok scIsName (fun vs H Q E h => ?_) (fun cdv A outer s H vs Q E hr h => ?_)
  · obtain ⟨v, x, X, rfl, _⟩ := h
    rfl
  · obtain ⟨v, x, X, rfl, hv, sm, q⟩ := h
    have hu := hu_of hr
    have nd := scIsName.nd
    refine ⟨_, (C8.pss_cut (ps_if (PW.pt (pw_or (pt_not (pt_val (pe_callB call_isi (by rfl) T.isinstance (by decide +kernel) (pa_cons (pv 0) (pa_cons (pe_bltn (v := .ty "str") (by rfl) T.str (by decide +kernel) rfl) pa_nil))))) (pw_or1 (pt_not (pt_chain op_le op_le pe_int (pe_callB call_len_str (by rfl) T.len (by decide +kernel) (pa_cons (pv 0) pa_nil)) (pe_glob (v := .int 8) rfl mgLONGEST_NAME ⟨_, rfl⟩))))))
      (pss_one (ps_ret pe_bl))
      pss_nil)
    (pss_one (ps_ret (pe_callB (cr_all rfl) (by rfl) T.all (by decide +kernel) (pa_cons (pe_lc (own := [("letter", 1)]) (g := gName 1) (by rfl) nd (pi_str (pv 0)) (blkOk_by (own := [("letter", 1)]) (N := ["value", "letter"]) (sc := defScope sIsName) (by decide +kernel)) (fun _ _ _ _ _ => (pg_name (i := 1) nd rfl (Or.inl rfl))) (fun _ _ _ _ _ => pts_nil) (fun _ _ _ _ _ => (pe_chain op_le_str op_le_str pe_str (pv 1) pe_str))) pa_nil))))), ?_⟩
    refine ⟨fun σ H' => H' = H ∧ ∃ z : Str, x = .str z ∧ v = .str z ∧ σ = [some (.str z), none] ∧ 1 ≤ z.cps.toList.length ∧ z.cps.toList.length ≤ 8, ?_, ?_⟩
    · refine ⟨v, rfl, v, .ty "str", _, _, _, rfl, .ty "str", hv.ty, is_strD x, _, rfl, ?_⟩
      cases hv with
      | str z =>
        refine iteF ?_
        refine ⟨.str z, rfl, z, rfl, len_le sm.1 (by decide), _, _, rfl, rfl, _, rfl, ite2 (fun h1 => ?_) (fun h1 => ?_)⟩
        · have e1 : (1 : Int) ≤ z.length := of_decide_eq_true h1
          have e2 : z.length = z.cps.toList.length := rfl
          refine ⟨_, _, rfl, rfl, _, rfl, ?_⟩
          by_cases h8 : (z.length : Int) ≤ 8
          · rw [decide_eq_true h8]
            refine iteF ?_
            exact ⟨rfl, z, rfl, rfl, rfl, by omega, by omega⟩
          · rw [decide_eq_false h8]
            refine iteT ?_
            have e : nameD (.str z) = false := by
              show (decide (1 ≤ z.cps.toList.length) && decide (z.cps.toList.length ≤ 8) && z.cps.toList.all lowB) = false
              rw [decide_eq_false (show ¬ z.cps.toList.length ≤ 8 by omega), Bool.and_false, Bool.false_and]
            have := q H (Same.refl H)
            rw [e] at this
            exact this
        · refine ⟨_, rfl, iteT ?_⟩
          have e1 : ¬ (1 : Int) ≤ z.length := fun z => h1 (decide_eq_true z)
          have e2 : z.length = z.cps.toList.length := rfl
          have e : nameD (.str z) = false := by
            show (decide (1 ≤ z.cps.toList.length) && decide (z.cps.toList.length ≤ 8) && z.cps.toList.all lowB) = false
            rw [decide_eq_false (show ¬ 1 ≤ z.cps.toList.length by omega), Bool.false_and, Bool.false_and]
          have := q H (Same.refl H)
          rw [e] at this
          exact this
      | _ => exact iteT (q H (Same.refl H))
    · rintro σ H' ⟨rfl, z, rfl, rfl, rfl, h1, h8⟩
      refine ⟨.str z, rfl, z, rfl, fun D nD => ?_⟩
      refine lc_it walk_str (fun i Hi => ∃ acc : List Bool, Hi D = some (.lst (acc.map V.bl)) ∧ acc = (z.cps.toList.take i).map lowB ∧ ∀ b x, b ≠ D → H' b = some x → Hi b = some x) ⟨[], upd_same, rfl, fun b x nb e => by rw [upd_ne nb]; exact e⟩ (fun _ _ _ _ => trivial) ?_ ?_
      · rintro i y Hi Hj hi ⟨acc, hD, ea, hk⟩ ⟨rfl, c, hc, rfl⟩
        refine ⟨rfl, ?_⟩
        refine ⟨.str ⟨#[c]⟩, rfl, _, _, rfl, rfl, _, rfl, ?_⟩
        have el : acc.length ≤ 8 := by rw [ea, List.length_map, List.length_take]; omega
        have hci : z.cps.toList[i]? = some c := by rw [Array.getElem?_toList]; exact hc
        have ek : (z.cps.toList.take (i + 1)).map lowB = acc ++ [lowB c] := by
          rw [List.take_add_one, hci, List.map_append, ea]
          rfl
        have fin : ∀ b : Bool, b = lowB c → ∃ acc0, Hj D = some (.lst acc0) ∧ acc0.length < sizeLine ∧ ∃ acc1 : List Bool, (upd Hj D (.lst (acc0 ++ [V.bl b]))) D = some (.lst (acc1.map V.bl)) ∧ acc1 = (z.cps.toList.take (i + 1)).map lowB ∧ ∀ b' x, b' ≠ D → H' b' = some x → (upd Hj D (.lst (acc0 ++ [V.bl b]))) b' = some x := by
          intro b hb
          refine ⟨_, hD, by rw [List.length_map]; exact small1000 (by omega), acc ++ [b], by rw [upd_same, List.map_append]; rfl, by rw [ek, hb], fun b' x nb e => by rw [upd_ne nb]; exact hk b' x nb e⟩
        rw [chr_a, lt_one]
        refine ite2 (fun ha => ?_) (fun ha => ?_)
        · refine ⟨_, _, rfl, rfl, ?_⟩
          rw [chr_z, lt_one]
          rw [not_lt_le] at ha ⊢
          refine fin _ ?_
          unfold lowB
          rw [ha, Bool.true_and]
        · refine fin false ?_
          rw [not_lt_le] at ha
          unfold lowB
          cases hx : decide (97 ≤ c) with
          | true => exact absurd hx ha
          | false => rfl
      · rintro Hi ⟨acc, hD, ea, hk⟩
        refine ⟨D, acc, rfl, .inl (.inl hD), ?_⟩
        have e : acc.all id = nameD (.str z) := by
          show _ = (decide (1 ≤ z.cps.toList.length) && decide (z.cps.toList.length ≤ 8) && z.cps.toList.all lowB)
          rw [decide_eq_true h1, decide_eq_true h8, ea, show z.cps.size = z.cps.toList.length from rfl, List.take_length, List.all_map]
          rfl
        rw [e]
        exact q Hi fun b x e => hk b x (ne_of_none e nD) e
theorem scIsLevel : FnScope ["value"] ["value"] (defScope sIsLevel) := ⟨rfl, rfl, rfl, by decide +kernel, rfl, by decide +kernel, by decide +kernel⟩
theorem ok_is_level {f : Addr} {fd : FuncData} (F : Fun K "is_level" "is_level" sIsLevel f fd) (T : Txt mg) : FnOk P w K mg base CX0 1 f fd ["value"] (spTest levelD) := by
  refine F.ok scIsLevel (fun vs H Q E h => ?_) (fun cdv A outer s H vs Q E hr h => ?_)
  · obtain ⟨v, x, X, rfl, _⟩ := h
    rfl
  · obtain ⟨v, x, X, rfl, hv, sm, q⟩ := h
    have nd := scIsLevel.nd
    refine ⟨_, (pss_one (ps_ret (pe_and (pe_callB call_isi (by rfl) T.isinstance (by decide +kernel) (pa_cons (pv 0) (pa_cons (pe_bltn (v := .ty "int") (by rfl) T.int (by decide +kernel) rfl) pa_nil))) (pe_one (pe_not (pe_callB call_isi (by rfl) T.isinstance (by decide +kernel) (pa_cons (pv 0) (pa_cons (pe_bltn (v := .ty "bool") (by rfl) T.bool (by decide +kernel) rfl) pa_nil)))))))), ?_⟩
    refine ⟨v, rfl, v, .ty "int", _, _, _, rfl, .ty "int", hv.ty, is_intD x, _, rfl, ?_⟩
    have rest : ∀ b : Bool, b = levelD x → Q (.bl b) H := fun b e => e ▸ q H (Same.refl H)
    cases hb : isintB x with
    | true =>
      refine iteT ⟨v, rfl, v, .ty "bool", _, _, _, rfl, .ty "bool", hv.ty, is_boolD x, _, rfl, rest _ ?_⟩
      cases x <;> first | rfl | cases hb
    | false =>
      refine iteF (rest false ?_)
      cases x <;> first | rfl | cases hb
/-! ### beds -/
structure Bed where
  rock : Str
  th : Int
  mark : Option Str
def oV : Option Str → V
  | none => .non
  | some s => .str s
def oD : Option Str → PyData
  | none => .none
  | some s => .str s
def bedV (b : Bed) : List V := [.str b.rock, .int b.th, oV b.mark]
def bedD (b : Bed) : PyData := .tuple [.str b.rock, .int b.th, oD b.mark]
def okO (o : Option Str) : Prop := ∀ z, o = some z → wordB z = true
structure GoodB (b : Bed) : Prop where
  rock : wordB b.rock = true
  th : 1 ≤ b.th
  mark : okO b.mark
/-- no two neighbours of one rock without a mark between them -/
def Apart : List Bed → Prop
  | x :: y :: r => ¬ (x.rock = y.rock ∧ x.mark = none) ∧ Apart (y :: r)
  | _ => True
structure GoodBs (bs : List Bed) : Prop where
  all : ∀ b ∈ bs, GoodB b
  apart : Apart bs
theorem dv_o {X : Addr → Prop} {H : Hp} (o : Option Str) : DV X H (oV o) (oD o) := by
  cases o with
  | none => exact .non
  | some s => exact .str s
theorem o_inv {X : Addr → Prop} {H : Hp} {v : V} {o : Option Str} (h : DV X H v (oD o)) : v = oV o := by
  cases o with
  | none => cases h; rfl
  | some s => cases h; rfl
theorem dv_bed {X : Addr → Prop} {H : Hp} {a : Addr} {b : Bed} (n : ¬ X a) (h : H a = some (.tup (bedV b))) : DV X H (.ref a) (bedD b) :=
  .tup n h (.cons (.str _) (.cons (.int _) (.cons (dv_o _) .nil)))
theorem bed_inv {X : Addr → Prop} {H : Hp} {v : V} {b : Bed} (h : DV X H v (bedD b)) : ∃ a, v = .ref a ∧ ¬ X a ∧ H a = some (.tup (bedV b)) := by
  cases h with
  | tup n e r =>
    cases r with
    | cons h1 r =>
      cases r with
      | cons h2 r =>
        cases r with
        | cons h3 r =>
          cases r
          cases h1
          cases h2
          have := o_inv h3
          subst this
          exact ⟨_, rfl, n, e⟩
theorem DVs.get {X : Addr → Prop} {H : Hp} : ∀ {xs : List V} {ds : List PyData} {i : Nat} {v : V}, DVs X H xs ds → xs[i]? = some v → ∃ x, ds[i]? = some x ∧ DV X H v x
  | _, _, _, _, .nil, e => by simp at e
  | _, _, 0, _, .cons h r, e => by cases e; exact ⟨_, rfl, h⟩
  | _, _, i + 1, _, .cons h r, e => by
    obtain ⟨x, h1, h2⟩ := DVs.get r (by simpa using e)
    exact ⟨x, by simpa using h1, h2⟩
theorem beds_get {X : Addr → Prop} {H : Hp} {xs : List V} {bs : List Bed} {i : Nat} {v : V} (S : DVs X H xs (bs.map bedD)) (e : xs[i]? = some v) : ∃ b a, bs[i]? = some b ∧ v = .ref a ∧ ¬ X a ∧ H a = some (.tup (bedV b)) := by
  obtain ⟨x, h1, h2⟩ := S.get e
  rw [List.getElem?_map] at h1
  cases hb : bs[i]? with
  | none => rw [hb] at h1; cases h1
  | some b =>
    rw [hb] at h1
    cases h1
    obtain ⟨a, h3, h4, h5⟩ := bed_inv h2
    exact ⟨b, a, rfl, h3, h4, h5⟩
theorem beds_len {X : Addr → Prop} {H : Hp} {xs : List V} {bs : List Bed} (S : DVs X H xs (bs.map bedD)) : xs.length = bs.length := by rw [S.length, List.length_map]
theorem apart_at : ∀ {bs : List Bed} {i : Nat} {x y : Bed}, Apart bs → bs[i]? = some x → bs[i + 1]? = some y → ¬ (x.rock = y.rock ∧ x.mark = none)
  | [], _, _, _, _, h, _ => by simp at h
  | [_], 0, _, _, _, _, h => by simp at h
  | [_], i + 1, _, _, _, h, _ => by simp at h
  | a :: b :: r, 0, x, y, p, h1, h2 => by
    cases h1
    cases h2
    exact p.1
  | a :: b :: r, i + 1, x, y, p, h1, h2 => apart_at (bs := b :: r) p.2 h1 h2
theorem word_sm {z : Str} (h : wordB z = true) : Sm (.str z) := by
  obtain ⟨h1, h2⟩ := Bool.and_eq_true_iff.mp h
  obtain ⟨h3, h4⟩ := Bool.and_eq_true_iff.mp h1
  refine ⟨Nat.le_trans (of_decide_eq_true h4) (by decide), fun c hc => ?_⟩
  have := List.all_eq_true.mp h2 c hc
  obtain ⟨_, h6⟩ := Bool.and_eq_true_iff.mp this
  exact Nat.lt_of_le_of_lt (of_decide_eq_true h6) (by decide)
/-! ### the checks, where all is right -/
def spNeedName : Sp := fun vs H Q _ => ∃ z : Str, vs = [.str z] ∧ wordB z = true ∧ ∀ H', Same H H' → Q .non H'
def spNeedLevel : Sp := fun vs H Q _ => ∃ i : Int, vs = [.int i] ∧ ∀ H', Same H H' → Q .non H'
def spNeedO : Sp := fun vs H Q _ => ∃ o : Option Str, vs = [oV o] ∧ okO o ∧ ∀ H', Same H H' → Q .non H'
theorem scNeedName : FnScope ["value"] ["value"] (defScope sNeedName) := ⟨rfl, rfl, rfl, by decide +kernel, rfl, by decide +kernel, by decide +kernel⟩
theorem ok_need_name {f fN : Addr} {fd fdN : FuncData} {tN : Tok} (F : Fun K "need_name" "need_name" sNeedName f fd) (T : Txt mg) (DN : DefAt K mg "is_name" sIsName ["value"] fN fdN) (mgLONGEST_NAME : mg "LONGEST_NAME" = some (.int 8 tN)) : FnOk P w K mg base CX0 2 f fd ["value"] spNeedName := by
  have GN : FnOk P w K mg base CX0 1 fN fdN ["value"] (spTest nameD) := ok_is_name DN.F T mgLONGEST_NAME
  refine F.ok scNeedName (fun vs H Q E h => ?_) (fun cdv A outer s H vs Q E hr h => ?_)
  · obtain ⟨z, rfl, _⟩ := h
    rfl
  · obtain ⟨z, rfl, hz, q⟩ := h
    have nd := scNeedName.nd
    refine ⟨_, (pss_one (ps_if (pt_not (pt_val (pe_call GN (hr.mono (by decide)) (by rfl) DN.M DN.F.kp DN.B .nil pass0 (pa_cons (pv 0) pa_nil))))
      (pss_one ps_never)
      pss_nil)), ?_⟩
    refine ⟨_, rfl, _, _, fun _ => False, rfl, .str z, word_sm hz, fun H1 s1 => ⟨_, rfl, ?_⟩⟩
    rw [show nameD (.str z) = true from hz]
    exact iteF (q H1 s1)
theorem scNeedLevel : FnScope ["value"] ["value"] (defScope sNeedLevel) := ⟨rfl, rfl, rfl, by decide +kernel, rfl, by decide +kernel, by decide +kernel⟩
theorem ok_need_level {f fL : Addr} {fd fdL : FuncData} (F : Fun K "need_level" "need_level" sNeedLevel f fd) (T : Txt mg) (DL : DefAt K mg "is_level" sIsLevel ["value"] fL fdL) : FnOk P w K mg base CX0 2 f fd ["value"] spNeedLevel := by
  have GL : FnOk P w K mg base CX0 1 fL fdL ["value"] (spTest levelD) := ok_is_level DL.F T
  refine F.ok scNeedLevel (fun vs H Q E h => ?_) (fun cdv A outer s H vs Q E hr h => ?_)
  · obtain ⟨z, rfl, _⟩ := h
    rfl
  · obtain ⟨z, rfl, q⟩ := h
    have nd := scNeedLevel.nd
    refine ⟨_, (pss_one (ps_if (pt_not (pt_val (pe_call GL (hr.mono (by decide)) (by rfl) DL.M DL.F.kp DL.B .nil pass0 (pa_cons (pv 0) pa_nil))))
      (pss_one ps_never)
      pss_nil)), ?_⟩
    refine ⟨_, rfl, _, _, fun _ => False, rfl, .int z, trivial, fun H1 s1 => ⟨_, rfl, ?_⟩⟩
    exact iteF (q H1 s1)
theorem scNeedO : FnScope ["value"] ["value"] (defScope sNeedNameOrNone) := ⟨rfl, rfl, rfl, by decide +kernel, rfl, by decide +kernel, by decide +kernel⟩
theorem ok_need_o {f fN fNN : Addr} {fd fdN fdNN : FuncData} {tN : Tok} (F : Fun K "need_name_or_none" "need_name_or_none" sNeedNameOrNone f fd) (T : Txt mg) (DN : DefAt K mg "is_name" sIsName ["value"] fN fdN) (DNN : DefAt K mg "need_name" sNeedName ["value"] fNN fdNN) (mgLONGEST_NAME : mg "LONGEST_NAME" = some (.int 8 tN)) : FnOk P w K mg base CX0 3 f fd ["value"] spNeedO := by
  have GNN : FnOk P w K mg base CX0 2 fNN fdNN ["value"] spNeedName := ok_need_name DNN.F T DN mgLONGEST_NAME
  refine F.ok scNeedO (fun vs H Q E h => ?_) (fun cdv A outer s H vs Q E hr h => ?_)
  · obtain ⟨z, rfl, _⟩ := h
    rfl
  · obtain ⟨o, rfl, ho, q⟩ := h
    have nd := scNeedO.nd
    refine ⟨_, (pss_one (ps_if (pt_cmpR op_notN (pv 0) pe_non (nomark _))
      (pss_one (ps_expr (pe_call GNN (hr.mono (by decide)) (by rfl) DNN.M DNN.F.kp DNN.B .nil pass0 (pa_cons (pv 0) pa_nil))))
      pss_nil)), ?_⟩
    cases o with
    | none => exact ⟨_, rfl, rfl, _, rfl, iteF (q H (Same.refl H))⟩
    | some z => exact ⟨_, rfl, rfl, _, rfl, iteT ⟨_, rfl, z, rfl, ho z rfl, fun H1 s1 => q H1 s1⟩⟩
/-! ### feed, word -/
theorem Feed.same {H H' : Hp} {d c : Addr} {ns : List Int} {n : Nat} (F : Feed H d c ns n) (S : Same H H') : Feed H' d c ns n := by
  obtain ⟨⟨l, l0, e⟩, hc, hl⟩ := F
  exact ⟨⟨l, l0, S _ _ e⟩, S _ _ hc, hl⟩
def spFeed (K : PySem.W.Frag) : Sp := fun vs H Q _ => ∃ (a : Addr) (ns : List Int), vs = [.ref a] ∧ SqL K H a (ns.map V.int) ∧ ns.length ≤ 63 ∧
  ∀ (d c : Addr) (H' : Hp), Feed H' d c ns 0 → Same H H' → H d = none → Q (.ref d) H'
theorem merge_fk (c : Addr) (n l : Int) : mergeK [] (fk c n l) = fk c n l := by
  have e1 : ¬ kA = kC := fun h => nCA h.symm
  unfold fk mergeK putK
  simp only [List.foldl_cons, List.foldl_nil, List.any_nil, List.any_cons, Bool.false_eq_true, if_false, List.nil_append, nCA, nCL, nAL, decide_false, Bool.or_false, List.cons_append, Bool.or_self]
theorem scFeed : FnScope ["_law_script"] ["_law_script"] (defScope sFeed) := ⟨rfl, rfl, rfl, by decide +kernel, rfl, by decide +kernel, by decide +kernel⟩
theorem ok_feed {f : Addr} {fd : FuncData} (F : Fun K "_law_feed" "_law_feed" sFeed f fd) (T : Txt mg) : FnOk P w K mg base CX0 1 f fd ["_law_script"] (spFeed K) := by
  refine F.ok scFeed (fun vs H Q E h => ?_) (fun cdv A outer s H vs Q E hr h => ?_)
  · obtain ⟨a, ns, rfl, _⟩ := h
    rfl
  · obtain ⟨a, ns, rfl, hS, hl, q⟩ := h
    have hu := hu_of hr
    have nd := scFeed.nd
    refine ⟨_, (pss_one (ps_ret (pe_disp (pps_cons pe_str (pe_callTy call_list_of (by rfl) T.list (by decide +kernel) (pa_cons (pe_slice sl_list (pv 0) po_none (po_some pe_int)) pa_nil)) (pps_cons pe_str pe_int (pps_cons pe_str pe_int pps_nil))) (by rfl) (by rfl) (fun z => by cases z) (by decide)))), ?_⟩
    intro p np
    have s0 : Same H (upd H p (.dK [])) := new_same np
    refine ⟨.ref a, rfl, 63, rfl, a, _, rfl, s0.seq hS, fun c0 nc0 => ?_⟩
    have ec : cutV (ns.map V.int) none (some 63) = ns.map V.int := by
      unfold cutV
      rw [HT.sIx_none, show HT.sIx (ns.map V.int).length (ns.map V.int).length (some 63) = min 63 (ns.map V.int).length from HT.sIx_nat _ _ 63, List.drop_zero, List.length_map, Nat.min_eq_right hl, Nat.sub_zero]
      exact List.take_of_length_le (by rw [List.length_map]; exact Nat.le_refl _)
    rw [ec]
    refine ⟨c0, ns.map V.int, rfl, .inl (.inl (.inl upd_same)), fun c nc => ?_⟩
    have s1 := new_same (o := .lst (ns.map V.int)) nc0
    have s2 := new_same (o := .lst (ns.map V.int)) nc
    have hp2 := s2 _ _ (s1 _ _ (upd_same (H := H) (a := p) (o := .dK [])))
    refine ⟨hp2, fk c 0 0, rfl, (by show 3 ≤ 15; decide), ?_⟩
    rw [merge_fk]
    have ncp : c ≠ p := fun e => by rw [e] at nc; rw [s1 _ _ upd_same] at nc; cases nc
    refine q p c _ ⟨⟨0, Int.le_refl _, upd_same⟩, by rw [upd_ne ncp, upd_same], hl⟩ (fill_same np fun b x nb e => s2 _ _ (s1 _ _ (by rw [upd_ne nb]; exact e))) np
/-! ### names that the law draws -/
def Low (z : Str) : Prop := ∀ c ∈ z.cps.toList, lowB c = true
theorem word_of {z : Str} (h1 : 1 ≤ z.cps.toList.length) (h8 : z.cps.toList.length ≤ 8) (hl : Low z) : wordB z = true := by
  unfold wordB
  rw [decide_eq_true h1, decide_eq_true h8, List.all_eq_true.mpr hl]
  rfl
theorem cutm {z : Str} {lo hi : Option Int} {c : Nat} (h : c ∈ (cutS z lo hi).cps.toList) : c ∈ z.cps.toList := List.mem_of_mem_drop (List.mem_of_mem_take h)
theorem cutl (z : Str) (lo hi : Option Int) : (cutS z lo hi).cps.toList.length ≤ z.cps.toList.length := by
  show (List.take _ (List.drop _ _)).length ≤ _
  rw [List.length_take, List.length_drop]
  omega
theorem cut_to_len (z : Str) (k : Nat) : (cutS z none (some (k : Int))).cps.toList.length ≤ k := by
  show (List.take (HT.sIx z.length z.length (some (k : Int)) - HT.sIx z.length 0 none) _).length ≤ _
  rw [HT.sIx_nat, HT.sIx_none, List.length_take]
  omega
theorem cut_from_len (z : Str) (k : Nat) : (cutS z (some (k : Int)) none).cps.toList.length ≤ z.cps.toList.length - k := by
  show (List.take (HT.sIx z.length z.length none - HT.sIx z.length 0 (some (k : Int))) _).length ≤ _
  have e : z.length = z.cps.toList.length := rfl
  rw [HT.sIx_nat, HT.sIx_none, List.length_take, e]
  omega
theorem appl (a b : Str) : (a ++ b).cps.toList = a.cps.toList ++ b.cps.toList := by
  show (a.cps ++ b.cps).toList = _
  exact Array.toList_append
theorem joinl_one : ∀ cs : List Nat, TL.joinL [] (cs.map fun c => [c]) = cs
  | [] => rfl
  | [c] => rfl
  | c :: x :: r => by
    show [c] ++ ([] ++ TL.joinL [] ((x :: r).map fun c => [c])) = _
    rw [joinl_one (x :: r)]
    rfl
theorem joinchars (cs : List Nat) : Txt.join "" (cs.map fun c => (⟨#[c]⟩ : Str)) = ⟨cs.toArray⟩ := by
  have h := SX.join_S [] (cs.map fun c => [c])
  rw [joinl_one, List.map_map] at h
  exact h
theorem abc_all : ∀ c ∈ (Str.ofString "abcdefghijklmnopqrstuvwxyz").cps.toList, lowB c = true := by decide +kernel
theorem abc_get (i : Nat) (h : i < 26) : ∃ c, (Str.ofString "abcdefghijklmnopqrstuvwxyz").cps[i]? = some c ∧ lowB c = true := by
  have hs : (Str.ofString "abcdefghijklmnopqrstuvwxyz").cps.size = 26 := by decide +kernel
  refine ⟨(Str.ofString "abcdefghijklmnopqrstuvwxyz").cps[i]'(by omega), Array.getElem?_eq_getElem _, abc_all _ (Array.getElem_mem_toList _)⟩
theorem lens_one : ∀ l : List Nat, (l.map ((·.length) ∘ fun c => (⟨#[c]⟩ : Str))).sum = l.length
  | [] => rfl
  | a :: r => by rw [List.map_cons, List.sum_cons, lens_one r, List.length_cons]; show 1 + r.length = _; omega
theorem at_two (x y : V) (i : Int) (h0 : 0 ≤ i) (h1 : i < 2) (hx : ∃ t : Int, x = .int t) (hy : ∃ t : Int, y = .int t) : ∃ t : Int, atI [x, y] i = some (.int t) := by
  obtain ⟨a, rfl⟩ := hx
  obtain ⟨b, rfl⟩ := hy
  have h : i = 0 ∨ i = 1 := by omega
  rcases h with rfl | rfl
  · exact ⟨a, rfl⟩
  · exact ⟨b, rfl⟩
def spNames : Sp := fun vs H Q _ => ∃ (d c : Addr) (ns : List Int) (n m : Nat), vs = [.ref d, .int m] ∧ Feed H d c ns n ∧ n + 20 < 1000000000 ∧ 1 ≤ m ∧ m ≤ 10 ∧
  ∀ (a : Addr) (zs : List Str) (H' : Hp) (n' : Nat), H' a = some (.lst (zs.map V.str)) → zs.length = m → (∀ z ∈ zs, wordB z = true) → ¬ Old H a → n' ≤ n + 20 → Feed H' d c ns n' → Keep d H H' → Q (.ref a) H'
theorem scNames : FnScope ["_law_feed_here", "_law_many", "_law_letters", "_law_base", "_law_at", "_law_begin", "_law_short", "_law_step", "_law_signs", "_law_tails", "_law_k"] ["_law_feed_here", "_law_many"] (defScope sNames) := ⟨rfl, rfl, rfl, by decide +kernel, rfl, by decide +kernel, by decide +kernel⟩
set_option maxHeartbeats 4000000 in
theorem ok_names {f fD fP : Addr} {fd fdD fdP : FuncData} (F : Fun K "_law_names" "_law_names" sNames f fd) (T : Txt mg) (D : DefAt K mg "_law_draw" sDraw ["_law_feed_here", "_law_many"] fD fdD) (DP : DefAt K mg "_law_pick" sPick ["_law_feed_here", "_law_options"] fP fdP) : FnOk P w K mg base CX0 3 f fd ["_law_feed_here", "_law_many"] spNames := by
  have GD : FnOk P w K mg base CX0 1 fD fdD ["_law_feed_here", "_law_many"] spDraw := ok_draw D.F T
  have GPl : FnOk P w K mg base CX0 2 fP fdP ["_law_feed_here", "_law_options"] spPickL := ok_pickL DP.F T D
  have GPs : FnOk P w K mg base CX0 2 fP fdP ["_law_feed_here", "_law_options"] spPickS := ok_pickS DP.F T D
  refine F.ok scNames (fun vs H Q E h => ?_) (fun cdv A outer s H vs Q E hr h => ?_)
  · obtain ⟨d, c, ns, n, m, rfl, _⟩ := h
    rfl
  · obtain ⟨d, c, ns, n, m, rfl, FD, hn, hm1, hm, q⟩ := h
    have hu := hu_of hr
    have nd := scNames.nd
    refine ⟨_, (pss_cons (ps_set (i := 2) nd rfl (.inr rfl) pe_str)
    (pss_cons (ps_set (i := 3) nd rfl (.inr rfl) (pe_join pe_str (pe_lc (own := [("_law_k", 10)]) (g := gName 10) (by rfl) nd (pi_range1 (by rfl) T.range (pa_cons (pe_op op_add pe_int (pe_call GD (hr.mono (by decide)) (by rfl) D.M D.F.kp D.B .nil pass0 (pa_cons (pv 0) (pa_cons pe_int pa_nil)))) pa_nil)) (blkOk_by (own := [("_law_k", 10)]) (N := ["_law_feed_here", "_law_many", "_law_letters", "_law_base", "_law_at", "_law_begin", "_law_short", "_law_step", "_law_signs", "_law_tails", "_law_k"]) (sc := defScope sNames) (by decide +kernel)) (fun _ _ _ _ _ => (pg_name (i := 10) nd rfl (Or.inl rfl))) (fun _ _ _ _ _ => pts_nil) (fun _ _ _ _ _ => (pe_call GPs (hr.mono (by decide)) (by rfl) DP.M DP.F.kp DP.B .nil pass0 (pa_cons (pv 0) (pa_cons (pv 2) pa_nil)))))))
    (pss_cons (ps_asg (pe_tup (pa_cons (pe_call GD (hr.mono (by decide)) (by rfl) D.M D.F.kp D.B .nil pass0 (pa_cons (pv 0) (pa_cons (pe_callB call_len_str (by rfl) T.len (by decide +kernel) (pa_cons (pv 3) pa_nil)) pa_nil))) (pa_cons (pe_call GD (hr.mono (by decide)) (by rfl) D.M D.F.kp D.B .nil pass0 (pa_cons (pv 0) (pa_cons pe_int pa_nil))) (pa_cons (pe_call GD (hr.mono (by decide)) (by rfl) D.M D.F.kp D.B .nil pass0 (pa_cons (pv 0) (pa_cons pe_int pa_nil))) pa_nil)))) (pg_tup rfl (pgs_cons (pg_name (i := 4) nd rfl (.inr rfl)) (pgs_cons (pg_name (i := 5) nd rfl (.inr rfl)) (pgs_cons (pg_name (i := 6) nd rfl (.inr rfl)) pgs_nil)))))
    (pss_cons (ps_set (i := 7) nd rfl (.inr rfl) (pe_call GPl (hr.mono (by decide)) (by rfl) DP.M DP.F.kp DP.B .nil pass0 (pa_cons (pv 0) (pa_cons (pe_lst (pa_cons pe_int (pa_cons pe_int (pa_cons pe_int (pa_cons pe_int (pa_cons pe_int (pa_cons pe_int (pa_cons pe_int (pa_cons pe_int (pa_cons pe_int (pa_cons pe_int (pa_cons pe_int (pa_cons pe_int pa_nil))))))))))))) pa_nil))))
    (pss_cons (ps_set (i := 8) nd rfl (.inr rfl) (pe_lc (own := [("_law_k", 10)]) (g := gName 10) (by rfl) nd (pi_range1 (by rfl) T.range (pa_cons (pv 1) pa_nil)) (blkOk_by (own := [("_law_k", 10)]) (N := ["_law_feed_here", "_law_many", "_law_letters", "_law_base", "_law_at", "_law_begin", "_law_short", "_law_step", "_law_signs", "_law_tails", "_law_k"]) (sc := defScope sNames) (by decide +kernel)) (fun _ _ _ _ _ => (pg_name (i := 10) nd rfl (Or.inl rfl))) (fun _ _ _ _ _ => pts_nil) (fun _ _ _ _ _ => (pe_item_str (pv 2) (pe_op op_modN (pe_callTy call_int1 (by rfl) T.int (by decide +kernel) (pa_cons (pe_op op_add (pv 5) (pe_op op_mul (pv 7) (pv 10))) pa_nil)) pe_int) (fun _ _ => rfl)))))
    (pss_cons (ps_set (i := 9) nd rfl (.inr rfl) (pe_lc (own := [("_law_k", 10)]) (g := gName 10) (by rfl) nd (pi_range1 (by rfl) T.range (pa_cons (pv 1) pa_nil)) (blkOk_by (own := [("_law_k", 10)]) (N := ["_law_feed_here", "_law_many", "_law_letters", "_law_base", "_law_at", "_law_begin", "_law_short", "_law_step", "_law_signs", "_law_tails", "_law_k"]) (sc := defScope sNames) (by decide +kernel)) (fun _ _ _ _ _ => (pg_name (i := 10) nd rfl (Or.inl rfl))) (fun _ _ _ _ _ => pts_nil) (fun _ _ _ _ _ => (pe_slice sl_str (pe_slice sl_str (pv 3) (po_some (pe_op op_add (pv 4) pe_int)) po_none) po_none (po_some (pe_ix (show IxR _ (rIxL K) from ix_list) (pe_lst (pa_cons pe_int (pa_cons (pe_op op_modN (pe_callTy call_int1 (by rfl) T.int (by decide +kernel) (pa_cons (pv 10) pa_nil)) pe_int) pa_nil))) (pv 6) (fun _ _ => rfl)))))))
    (pss_one (ps_ret (pe_lc (own := [("_law_k", 10)]) (g := gName 10) (by rfl) nd (pi_range1 (by rfl) T.range (pa_cons (pv 1) pa_nil)) (blkOk_by (own := [("_law_k", 10)]) (N := ["_law_feed_here", "_law_many", "_law_letters", "_law_base", "_law_at", "_law_begin", "_law_short", "_law_step", "_law_signs", "_law_tails", "_law_k"]) (sc := defScope sNames) (by decide +kernel)) (fun _ _ _ _ _ => (pg_name (i := 10) nd rfl (Or.inl rfl))) (fun _ _ _ _ _ => pts_nil) (fun _ _ _ _ _ => (pe_op op_add_str (pe_op op_add_str (pe_slice sl_str (pv 3) po_none (po_some (pv 4))) (pe_ix (show IxR _ (rIxL K) from ix_list) (pv 8) (pv 10) (fun _ _ => rfl))) (pe_ix (show IxR _ (rIxL K) from ix_list) (pv 9) (pv 10) (fun _ _ => rfl))))))))))))), ?_⟩
    -- base = ''.join([..])
    refine ⟨⟨_, rfl⟩, .ref d, rfl, d, c, ns, n, 8, rfl, FD, by omega, by decide, by decide, fun r H1 n1 r0 r1 hn1 F1 K1 => ⟨_, _, rfl, rfl, 1 + r, rfl, by omega, by omega, fun D nD => ?_⟩⟩
    refine lc_range (lo := 0) (n := (1 + r).toNat) (fun i Hi => ∃ (n' : Nat) (cs : List Nat), n' ≤ n + 1 + i ∧ Feed Hi d c ns n' ∧ Keep d H1 Hi ∧ Hi D = some (.lst ((cs.map fun c => (⟨#[c]⟩ : Str)).map V.str)) ∧ cs.length = i ∧ ∀ c ∈ cs, lowB c = true) ?_ ?_ ?_
    · obtain ⟨U, r, F, k', h, _⟩ := nu F1 nD
      rw [r]
      exact ⟨n1, [], by omega, F _, k' _, h _, rfl, fun x hx => nomatch hx⟩
    · rintro i Hi hi ⟨n', cs, hn', Fi, ki, hD, hl, hc⟩
      refine ⟨rfl, .ref d, rfl, _, rfl, d, c, ns, n', _, rfl, Fi, by omega, (by decide +kernel), (by decide +kernel), fun x H' n'' hx hn'' F' K' => ?_⟩
      have hnD : D ≠ d := F1.nd nD
      have nc : D ≠ c := F1.nc nD
      obtain ⟨U, r, F, k', h, ho⟩ := fu F' nD (fun b o nb nb' e => K' _ _ nb (ki _ _ nb e)) hnD nc
      refine ⟨_, K' _ _ hnD hD, (by rw [List.length_map, List.length_map, hl]; exact small1000 (by omega)), n'', cs ++ [x], by omega, ?_⟩
      rw [r]
      refine ⟨F _, k' _, (by rw [h, List.map_append, List.map_append]; rfl), (by rw [List.length_append, hl]; rfl), fun y hy => ?_⟩
      rcases List.mem_append.mp hy with hy | hy
      · exact hc y hy
      · cases List.mem_singleton.mp hy
        exact abc_all _ hx
    rintro H2 ⟨n2, cs, hn2, F2, k2, hD, hl, hc⟩
    have hl8 : cs.length ≤ 8 := by omega
    have hl1 : 1 ≤ cs.length := by omega
    refine ⟨_, D, cs.map fun c => (⟨#[c]⟩ : Str), rfl, rfl, .inl (.inl (.inl hD)), ?_, ?_⟩
    · rw [List.map_map, lens_one, List.length_map, show (Str.ofString "").length = 0 by decide +kernel]
      omega
    rw [joinchars]
    have eF : (⟨cs.toArray⟩ : Str).cps.toList = cs := rfl
    generalize (⟨cs.toArray⟩ : Str) = z at eF ⊢
    have zl : z.cps.toList.length ≤ 8 := by rw [eF]; exact hl8
    have zl1 : 1 ≤ z.cps.toList.length := by rw [eF]; exact hl1
    have zc : Low z := fun c h => hc c (by rw [← eF]; exact h)
    have zs : z.length ≤ sizeLine := len_le zl (by decide)
    have ez : z.length = z.cps.toList.length := rfl
    have K2 := K1.trans k2
    clear hc hD hl hl8 hl1 eF F1 k2 K1 nD
    -- at, begin, short = ..
    refine ⟨.ref d, rfl, .str z, rfl, z, rfl, zs, d, c, ns, n2, _, rfl, F2, by omega, by omega, by omega, fun at_ H3 n3 a0 a1 hn3 F3 K3 => ?_⟩
    refine ⟨.ref d, rfl, d, c, ns, n3, 26, rfl, F3, by omega, by decide, by decide, fun bg H4 n4 b0 b1 hn4 F4 K4 => ?_⟩
    refine ⟨.ref d, rfl, d, c, ns, n4, 2, rfl, F4, by omega, by decide, by decide, fun sh H5 n5 c0 c1 hn5 F5 K5 => ?_⟩
    obtain ⟨ka, rfl⟩ : ∃ k : Nat, at_ = (k : Int) := ⟨at_.toNat, by omega⟩
    refine ⟨(by show 3 ≤ sizeLine; decide), fun p np => ?_⟩
    obtain ⟨U6, r6, F6, k6, h6, n6⟩ := nu F5 np
    rw [r6]
    refine ⟨p, _, rfl, .inl (.inl (h6 _)), rfl, _, _, rfl, _, _, rfl, _, _, rfl, rfl, ?_⟩
    have K26 := fun o => K2.trans (K3.trans (K4.trans (K5.trans (k6 o))))
    -- step = pick(..)
    refine ⟨.ref d, rfl, (by show 12 ≤ sizeLine; decide), fun p7 np7 => ?_⟩
    obtain ⟨U7, r7, F7, k7, h7, n7⟩ := nu (F6 _) np7
    rw [r7]
    refine ⟨d, c, ns, n5, p7, _, rfl, F7 _, by omega, h7 _, (by show 0 < 12; decide), (by show 12 < 1000000; decide), fun y H8 n8 hy hn8 F8 K8 => ?_⟩
    have hy' : ∃ t : Int, y = .int t ∧ 0 ≤ t ∧ t ≤ 25 := by
      have all : ∀ v ∈ ([.int 1, .int 3, .int 5, .int 7, .int 9, .int 11, .int 15, .int 17, .int 19, .int 21, .int 23, .int 25] : List V), ∃ t : Int, v = .int t ∧ 0 ≤ t ∧ t ≤ 25 := by
        intro v hv
        simp only [List.mem_cons, List.not_mem_nil, or_false] at hv
        rcases hv with rfl | rfl | rfl | rfl | rfl | rfl | rfl | rfl | rfl | rfl | rfl | rfl <;> exact ⟨_, rfl, by decide, by decide⟩
      exact all y hy
    obtain ⟨st, rfl, st0, st1⟩ := hy'
    have K08 := (K26 _).trans ((k7 _).trans K8)
    have n58 : n8 ≤ n + 20 := by omega
    clear K26 K2 K3 K4 K5 k6 k7 K8 F2 F3 F4 F5 F6 F7 r6 r7 h6 h7 np np7
    -- signs
    refine ⟨_, rfl, m, rfl, by omega, by omega, fun D nD => ?_⟩
    refine lc_range (lo := 0) (n := (m : Int).toNat) (fun i Hi => Same H8 Hi ∧ ∃ cs : List Nat, Hi D = some (.lst (cs.map fun c => V.str ⟨#[c]⟩)) ∧ cs.length = i ∧ ∀ c ∈ cs, lowB c = true) ⟨new_same nD, [], upd_same, rfl, fun x hx => nomatch hx⟩ ?_ ?_
    · rintro i Hi hi ⟨si, cs, hD, hl, hc⟩
      have e26 : (Str.ofString "abcdefghijklmnopqrstuvwxyz").length = 26 := by decide +kernel
      have m0 := fmod_lo (bg + st * (0 + (i : Int))) (b := 26) (by decide)
      have m1 := fmod_hi (bg + st * (0 + (i : Int))) (b := 26) (by decide)
      obtain ⟨ch, hch, lch⟩ := abc_get ((bg + st * (0 + (i : Int))).fmod 26).toNat (by omega)
      refine ⟨rfl, _, rfl, .int bg, rfl, .int st, rfl, .int (0 + (i : Int)), rfl, st, _, rfl, rfl, .inl ⟨by omega, by omega⟩, _, _, rfl, rfl, .inl ⟨_, rfl, _, _, rfl, rfl, (by show (26 : Int) ≠ 0; decide), ?_⟩⟩
      refine ⟨_, _, ch, rfl, rfl, m0, by omega, (by rw [e26]; exact m1), hch, _, hD, (by rw [List.length_map, hl]; exact small1000 (by omega)), fill_same nD (fun b x nb e => si _ _ e), cs ++ [ch], by rw [upd_same, List.map_append]; rfl, by rw [List.length_append, hl]; rfl, fun c hc' => ?_⟩
      rcases List.mem_append.mp hc' with h | h
      · exact hc c h
      · cases List.mem_singleton.mp h
        exact lch
    rintro H9 ⟨s9, cs9, hD9, hl9, hc9⟩
    -- tails
    have F9 := F8.same s9
    refine ⟨_, rfl, m, rfl, by omega, by omega, fun D2 nD2 => ?_⟩
    refine lc_range (lo := 0) (n := (m : Int).toNat) (fun i Hi => Same H9 Hi ∧ ∃ ts : List Str, Hi D2 = some (.lst (ts.map V.str)) ∧ ts.length = i ∧ ∀ t ∈ ts, t.cps.toList.length ≤ z.cps.toList.length - (ka + 1) ∧ Low t) ⟨new_same nD2, [], upd_same, rfl, fun x hx => nomatch hx⟩ ?_ ?_
    · rintro i Hi hi ⟨si, ts, hD, hl, hc⟩
      obtain ⟨tt, ett⟩ := at_two (.int 8) (.int ((0 + (i : Int)).fmod 3)) sh c0 c1 ⟨_, rfl⟩ ⟨_, rfl⟩
      have e1 : ((ka : Int) + 1) = ((ka + 1 : Nat) : Int) := by omega
      have g1 := cut_from_len z (ka + 1)
      rw [← e1] at g1
      have g0 := cutl z (some ((ka : Int) + 1)) none
      have g2 := cutl (cutS z (some ((ka : Int) + 1)) none) none (some tt)
      refine ⟨rfl, .str z, rfl, .int ka, rfl, _, _, rfl, rfl, (ka : Int) + 1, rfl, z, rfl, zs, .int (0 + (i : Int)), rfl, .inl ⟨_, rfl, _, _, rfl, rfl, (by show (3 : Int) ≠ 0; decide), (by show 2 ≤ sizeLine; decide), fun p np => ?_⟩⟩
      have sp := new_same (o := .lst [.int 8, .int ((0 + (i : Int)).fmod 3)]) np
      refine ⟨_, rfl, p, _, _, _, rfl, rfl, .inl (.inl upd_same), ett, tt, rfl, _, rfl, len_le (k := 8) (by omega) (by decide), _, sp _ _ hD, (by rw [List.length_map, hl]; exact small1000 (by omega)), fill_same nD2 (fun b x nb e => sp _ _ (si _ _ e)), ts ++ [_], by rw [upd_same, List.map_append]; rfl, by rw [List.length_append, hl]; rfl, fun t ht => ?_⟩
      rcases List.mem_append.mp ht with h | h
      · exact hc t h
      · cases List.mem_singleton.mp h
        exact ⟨by omega, fun c hcc => zc c (cutm (cutm hcc))⟩
    rintro H10 ⟨s10, ts, hD10, hl10, hc10⟩
    -- the names
    refine ⟨_, rfl, m, rfl, by omega, by omega, fun D3 nD3 => ?_⟩
    refine lc_range (lo := 0) (n := (m : Int).toNat) (fun i Hi => Same H10 Hi ∧ ∃ ws : List Str, Hi D3 = some (.lst (ws.map V.str)) ∧ ws.length = i ∧ ∀ t ∈ ws, wordB t = true) ⟨new_same nD3, [], upd_same, rfl, fun x hx => nomatch hx⟩ ?_ ?_
    · rintro i Hi hi ⟨si, ws, hD, hl, hc⟩
      have e0 : (0 : Int) + (i : Int) = (i : Int) := Int.zero_add _
      have i9 : i < cs9.length := by omega
      have i10 : i < ts.length := by omega
      have gs : (cs9.map fun c => V.str ⟨#[c]⟩)[i]? = some (.str ⟨#[cs9[i]]⟩) := by rw [List.getElem?_map, List.getElem?_eq_getElem i9]; rfl
      have gt : (ts.map V.str)[i]? = some (.str ts[i]) := by rw [List.getElem?_map, List.getElem?_eq_getElem i10]; rfl
      have lc := hc9 _ (List.getElem_mem i9)
      obtain ⟨lt1, lt2⟩ := hc10 _ (List.getElem_mem i10)
      have l1 := cut_to_len z ka
      have l1' := cutl z none (some (ka : Int))
      have o1 : (⟨#[cs9[i]]⟩ : Str).cps.toList = [cs9[i]] := rfl
      have L1 : (cutS z none (some (ka : Int)) ++ (⟨#[cs9[i]]⟩ : Str)).cps.toList.length = (cutS z none (some (ka : Int))).cps.toList.length + 1 := by rw [appl, List.length_append, o1]; rfl
      have L2 : ((cutS z none (some (ka : Int)) ++ (⟨#[cs9[i]]⟩ : Str)) ++ ts[i]).cps.toList.length = (cutS z none (some (ka : Int))).cps.toList.length + 1 + ts[i].cps.toList.length := by rw [appl, List.length_append, L1]
      have W : wordB ((cutS z none (some (ka : Int)) ++ (⟨#[cs9[i]]⟩ : Str)) ++ ts[i]) = true := by
        refine word_of (by omega) (by omega) fun c hcc => ?_
        rw [appl, appl] at hcc
        rcases List.mem_append.mp hcc with h | h
        · rcases List.mem_append.mp h with h | h
          · exact zc c (cutm h)
          · cases List.mem_singleton.mp h
            exact lc
        · exact lt2 c h
      have ln : ∀ a b : Str, a.cps.toList.length + b.cps.toList.length ≤ 1000 → a.length + b.length ≤ sizeLine := fun a b h => Nat.le_of_lt (small1000 h)
      have n1 := ln (cutS z none (some (ka : Int))) ⟨#[cs9[i]]⟩ (by rw [o1]; show _ + 1 ≤ 1000; omega)
      have n2 := ln (cutS z none (some (ka : Int)) ++ (⟨#[cs9[i]]⟩ : Str)) ts[i] (by omega)
      refine ⟨rfl, .str z, rfl, .int ka, rfl, (ka : Int), rfl, z, rfl, zs, .ref D, rfl, .int (0 + (i : Int)), rfl, D, _, _, _, rfl, rfl, .inl (.inl (si _ _ (s10 _ _ hD9))), (by rw [e0]; exact atI_nat gs), _, _, rfl, rfl, n1,
        .ref D2, rfl, .int (0 + (i : Int)), rfl, D2, _, _, _, rfl, rfl, .inl (.inl (si _ _ hD10)), (by rw [e0]; exact atI_nat gt), _, _, rfl, rfl, n2, _, hD, (by rw [List.length_map, hl]; exact small1000 (by omega)), fill_same nD3 (fun b x nb e => si _ _ e), ws ++ [_], by rw [upd_same, List.map_append]; rfl, by rw [List.length_append, hl]; rfl, fun t ht => ?_⟩
      rcases List.mem_append.mp ht with h | h
      · exact hc t h
      · cases List.mem_singleton.mp h
        exact W
    rintro H11 ⟨s11, ws, hD11, hl11, hc11⟩
    have s811 := (s9.trans s10).trans s11
    have F10 := F9.same s10
    have KS : ∀ {A B : Hp}, Same A B → Keep d A B := fun s b o _ e => s b o e
    exact q D3 ws H11 n8 hD11 (by omega) hc11 ((K08.trans (KS (s9.trans s10))).free (F10.nd nD3) nD3) n58 (F10.same s11) (K08.trans (KS s811))
/-! ### is_bed, merges, are_beds -/
def spIsBed : Sp := fun vs H Q _ => ∃ (a : Addr) (b : Bed), vs = [.ref a] ∧ H a = some (.tup (bedV b)) ∧ GoodB b ∧ ∀ H', Same H H' → Q (.bl true) H'
def spMerges : Sp := fun vs H Q _ => ∃ (a : Addr) (b : Bed) (r : Str), vs = [.ref a, .str r] ∧ H a = some (.tup (bedV b)) ∧ Q (.bl (decide (b.rock = r ∧ b.mark = none))) H
theorem scIsBed : FnScope ["value", "rock", "thickness", "mark"] ["value"] (defScope sIsBed) := ⟨rfl, rfl, rfl, by decide +kernel, rfl, by decide +kernel, by decide +kernel⟩
theorem ok_is_bed {f fN fL : Addr} {fd fdN fdL : FuncData} {tN : Tok} (F : Fun K "is_bed" "is_bed" sIsBed f fd) (T : Txt mg) (DN : DefAt K mg "is_name" sIsName ["value"] fN fdN) (DL : DefAt K mg "is_level" sIsLevel ["value"] fL fdL) (mgLONGEST_NAME : mg "LONGEST_NAME" = some (.int 8 tN)) : FnOk P w K mg base CX0 2 f fd ["value"] spIsBed := by
  have GN : FnOk P w K mg base CX0 1 fN fdN ["value"] (spTest nameD) := ok_is_name DN.F T mgLONGEST_NAME
  have GL : FnOk P w K mg base CX0 1 fL fdL ["value"] (spTest levelD) := ok_is_level DL.F T
  refine F.ok scIsBed (fun vs H Q E h => ?_) (fun cdv A outer s H vs Q E hr h => ?_)
  · obtain ⟨a, b, rfl, _⟩ := h
    rfl
  · obtain ⟨a, b, rfl, ha, G, q⟩ := h
    have nd := scIsBed.nd
    refine ⟨_, (C8.pss_cut (ps_if (PW.pt (pw_or (pt_not (pt_val (pe_callB call_isi (by rfl) T.isinstance (by decide +kernel) (pa_cons (pv 0) (pa_cons (pe_bltn (v := .ty "tuple") (by rfl) T.tuple (by decide +kernel) rfl) pa_nil))))) (pw_or1 (pt_cmpR op_ne (pe_callB call_len_seq (by rfl) T.len (by decide +kernel) (pa_cons (pv 0) pa_nil)) pe_int (nomark _)))))
      (pss_one (ps_ret pe_bl))
      pss_nil)
    (pss_cons (ps_asg (pv 0) (pg_tup rfl (pgs_cons (pg_name (i := 1) nd rfl (.inl rfl)) (pgs_cons (pg_name (i := 2) nd rfl (.inl rfl)) (pgs_cons (pg_name (i := 3) nd rfl (.inl rfl)) pgs_nil)))))
    (C8.pss_cut (ps_if (PW.pt (pw_or (pt_not (pt_val (pe_call GN (hr.mono (by decide)) (by rfl) DN.M DN.F.kp DN.B .nil pass0 (pa_cons (pv 1) pa_nil)))) (pw_or (pt_not (pt_val (pe_call GL (hr.mono (by decide)) (by rfl) DL.M DL.F.kp DL.B .nil pass0 (pa_cons (pv 2) pa_nil)))) (pw_or1 (pt_cmpR op_lt (pv 2) pe_int (nomark _))))))
      (pss_one (ps_ret pe_bl))
      pss_nil)
    (pss_one (ps_ret (pe_or (pe_cmpR op_isN (pv 3) pe_non (nomark _)) (pe_one (pe_call GN (hr.mono (by decide)) (by rfl) DN.M DN.F.kp DN.B .nil pass0 (pa_cons (pv 3) pa_nil))))))))), ?_⟩
    refine ⟨fun σ H' => H' = H ∧ σ = [some (.ref a), none, none, none], ?_, ?_⟩
    · refine ⟨_, rfl, _, .ty "tuple", .type "tuple", _, true, rfl, .ty "tuple", .base (.tup ha), kit_ty (by decide +kernel), _, rfl, ?_⟩
      refine iteF ⟨.ref a, rfl, a, _, rfl, .inr (.inl (.inl ha)), rfl, _, rfl, iteNS rfl ⟨rfl, rfl⟩⟩
    rintro σ H' ⟨rfl, rfl⟩
    refine ⟨.ref a, rfl, a, _, rfl, .inl (.inl ha), rfl, _, _, rfl, _, _, rfl, _, _, rfl, rfl, ?_⟩
    refine ⟨fun σ H1 => Same H' H1 ∧ σ = [some (.ref a), some (.str b.rock), some (.int b.th), some (oV b.mark)], ?_, ?_⟩
    · refine ⟨_, rfl, _, _, fun _ => False, rfl, .str b.rock, word_sm G.rock, fun H1 s1 => ⟨_, rfl, ?_⟩⟩
      rw [show nameD (.str b.rock) = true from G.rock]
      refine iteF ⟨_, rfl, _, _, fun _ => False, rfl, .int b.th, trivial, fun H2 s2 => ⟨_, rfl, ?_⟩⟩
      refine iteF ⟨_, rfl, _, _, rfl, rfl, _, rfl, ?_⟩
      rw [decide_eq_false (show ¬ b.th < 1 by have := G.th; omega)]
      exact iteF ⟨s1.trans s2, rfl⟩
    rintro σ H1 ⟨s1, rfl⟩
    obtain ⟨rock, th, mark⟩ := b
    cases mark with
    | none => exact ⟨_, rfl, rfl, _, rfl, iteT (q H1 s1)⟩
    | some z =>
      refine ⟨_, rfl, rfl, _, rfl, iteF ⟨_, rfl, _, _, fun _ => False, rfl, .str z, word_sm (G.mark z rfl), fun H2 s2 => ?_⟩⟩
      rw [show nameD (.str z) = true from G.mark z rfl]
      exact q H2 (s1.trans s2)
theorem scMerges : FnScope ["bed", "rock"] ["bed", "rock"] (defScope sMerges) := ⟨rfl, rfl, rfl, by decide +kernel, rfl, by decide +kernel, by decide +kernel⟩
theorem ok_merges {f : Addr} {fd : FuncData} (F : Fun K "merges" "merges" sMerges f fd) : FnOk P w K mg base CX0 1 f fd ["bed", "rock"] spMerges := by
  refine F.ok scMerges (fun vs H Q E h => ?_) (fun cdv A outer s H vs Q E hr h => ?_)
  · obtain ⟨a, b, r, rfl, _⟩ := h
    rfl
  · obtain ⟨a, b, r, rfl, ha, q⟩ := h
    have nd := scMerges.nd
    refine ⟨_, (pss_one (ps_ret (pe_and (pe_cmpR op_eq (pe_ix ix_tup (pv 0) pe_int (fun _ _ => rfl)) (pv 1) (nomark _)) (pe_one (pe_cmpR op_isN (pe_ix ix_tup (pv 0) pe_int (fun _ _ => rfl)) pe_non (nomark _)))))), ?_⟩
    refine ⟨.ref a, rfl, a, bedV b, 0, .str b.rock, rfl, rfl, .inl (.inl ha), rfl, .str r, rfl, rfl, _, rfl, ite2 (fun h => ?_) (fun h => ?_)⟩
    · have e : b.rock = r := V.str.inj (of_decide_eq_true h)
      refine ⟨.ref a, rfl, a, bedV b, 2, oV b.mark, rfl, rfl, .inl (.inl ha), rfl, rfl, ?_⟩
      have e2 : decide (b.rock = r ∧ b.mark = none) = decide (oV b.mark = V.non) := by
        refine decide_eq_decide.mpr ⟨fun z => by rw [z.2]; rfl, fun z => ⟨e, ?_⟩⟩
        cases hm : b.mark with
        | none => rfl
        | some y => rw [hm] at z; cases z
      rw [e2] at q
      exact q
    · have e : ¬ (b.rock = r ∧ b.mark = none) := fun z => h (decide_eq_true (by rw [z.1]))
      rw [decide_eq_false e] at q
      exact q
/-! a walk over two tuples side by side -/
theorem walk_zipT {K : PySem.W.Frag} {a b : Addr} {xs ys : List V} {n : Nat} (hn : n = min xs.length ys.length) : Walk (RZ.ItzT K a b) n (fun H => SqT K H a xs ∧ SqT K H b ys) (YPair (fun i => xs[i]?) (fun i => ys[i]?)) := by
  subst hn
  refine ⟨fun i H hi g => ⟨xs, ys, xs[i]'(by omega), ys[i]'(by omega), g.1, g.2, List.getElem?_eq_getElem (by omega), List.getElem?_eq_getElem (by omega)⟩, fun H g => ⟨xs, ys, g.1, g.2, ?_⟩, fun i H x H' hi g y => ?_⟩
  · by_cases h : xs.length ≤ ys.length
    · exact .inl (by omega)
    · exact .inr (by omega)
  · obtain ⟨t, u, v, e1, e2, e3, e4, e5⟩ := y
    exact ⟨t, u, v, e1, e2, e3, e4 xs g.1, e5 ys g.2⟩
theorem cut_one (xs : List V) : cutV xs (some 1) none = xs.drop 1 := by
  unfold cutV
  rw [show HT.sIx xs.length 0 (some 1) = min 1 xs.length from HT.sIx_nat xs.length 0 1, HT.sIx_none]
  cases xs with
  | nil => rfl
  | cons x r =>
    rw [show min 1 (x :: r).length = 1 by rw [List.length_cons]; omega]
    show List.take ((x :: r).length - 1) r = r
    rw [List.length_cons, Nat.add_sub_cancel]
    exact List.take_length
/-- a row of beds at a, a list or a tuple -/
def spAreL : Sp := fun vs H Q _ => ∃ (a : Addr) (xs : List V) (bs : List Bed) (X : Addr → Prop), vs = [.ref a] ∧ H a = some (.lst xs) ∧ DVs X H xs (bs.map bedD) ∧ GoodBs bs ∧ bs.length ≤ 900 ∧ ∀ H', Same H H' → Q (.bl true) H'
def spAreT (K : PySem.W.Frag) : Sp := fun vs H Q _ => ∃ (a : Addr) (xs : List V) (bs : List Bed) (X : Addr → Prop), vs = [.ref a] ∧ SqT K H a xs ∧ TyX K H (.ref a) (.type "tuple") ∧ DVs X H xs (bs.map bedD) ∧ GoodBs bs ∧ bs.length ≤ 900 ∧ ∀ H', Same H H' → Q (.bl true) H'
theorem scAre : FnScope ["value", "bed", "lower", "upper"] ["value"] (defScope sAreBeds) := ⟨rfl, rfl, rfl, by decide +kernel, rfl, by decide +kernel, by decide +kernel⟩
theorem kit_lt {a : String} (h1 : kitB a "list" = some false) (h2 : kitB a "tuple" = some true) : PySem.W.kitAny K (.type a) [.type "list", .type "tuple"] = some true :=
  kitAny_cons (kit_ty h1) (fun _ => kitAny_cons (kit_ty h2) (fun h => Bool.noConfusion h) (fun _ => rfl)) (fun h => Bool.noConfusion h)
theorem same_seqT {H H' : Hp} {a : Addr} {xs : List V} (s : Same H H') (h : SqT K H a xs) : SqT K H' a xs := by
  rcases h with (h | ⟨o, h⟩) | h
  · exact .inl (.inl (s _ _ h))
  · exact .inl (.inr ⟨o, s _ _ h⟩)
  · exact .inr h
theorem same_dvs {X : Addr → Prop} {H H' : Hp} {xs : List V} {ds : List PyData} (s : Same H H') (h : DVs X H xs ds) : DVs X H' xs ds := h.keep fun b o nb e => ⟨s _ _ e, nb⟩
theorem same_ty {K : PySem.W.Frag} {H H' : Hp} {v : V} {T : String} (s : Same H H') (h : TyX K H v (.type T)) : TyX K H' v (.type T) := by
  cases h with
  | base h =>
    refine .base ?_
    cases h with
    | non => exact .non
    | bl b => exact .bl b
    | int i => exact .int i
    | str x => exact .str x
    | flt x => exact .flt x
    | lst e => exact .lst (s _ _ e)
    | frz e => exact .frz (s _ _ e)
    | tup e => exact .tup (s _ _ e)
    | dK e => exact .dK (s _ _ e)
    | dT e => exact .dT (s _ _ e)
  | byt b => exact .byt b
  | set e => exact .set (s _ _ e)
  | kList e c => exact .kList e c
  | kTuple e c => exact .kTuple e c
  | kDict e c => exact .kDict e c
  | fTuple e => exact .fTuple (s _ _ e)
  | fDict e => exact .fDict (s _ _ e)
theorem ok_areL {f fB fM fN fL : Addr} {fd fdB fdM fdN fdL : FuncData} {tN : Tok} (F : Fun K "are_beds" "are_beds" sAreBeds f fd) (T : Txt mg) (DB : DefAt K mg "is_bed" sIsBed ["value"] fB fdB) (DM : DefAt K mg "merges" sMerges ["bed", "rock"] fM fdM)
    (DN : DefAt K mg "is_name" sIsName ["value"] fN fdN) (DL : DefAt K mg "is_level" sIsLevel ["value"] fL fdL) (mgLONGEST_NAME : mg "LONGEST_NAME" = some (.int 8 tN)) : FnOk P w K mg base CX0 3 f fd ["value"] spAreL := by
  have GB : FnOk P w K mg base CX0 2 fB fdB ["value"] spIsBed := ok_is_bed DB.F T DN DL mgLONGEST_NAME
  have GM : FnOk P w K mg base CX0 1 fM fdM ["bed", "rock"] spMerges := ok_merges DM.F
  refine F.ok scAre (fun vs H Q E h => ?_) (fun cdv A outer s H vs Q E hr h => ?_)
  · obtain ⟨a, xs, bs, X, rfl, _⟩ := h
    rfl
  · obtain ⟨a, xs, bs, X, rfl, ha, S, G, hl, q⟩ := h
    have nd := scAre.nd
    have hlen := beds_len S
    refine ⟨_, (pss_cons (ps_if (pt_not (pt_val (pe_callB call_isiT (by rfl) T.isinstance (by decide +kernel) (pa_cons (pv 0) (pa_cons (pe_tup (pa_cons (pe_bltn (v := .ty "list") (by rfl) T.list (by decide +kernel) rfl) (pa_cons (pe_bltn (v := .ty "tuple") (by rfl) T.tuple (by decide +kernel) rfl) pa_nil))) pa_nil)))))
      (pss_one (ps_ret pe_bl))
      pss_nil)
    (pss_cons (ps_if (pt_not (pt_val (pe_callB (cr_all rfl) (by rfl) T.all (by decide +kernel) (pa_cons (pe_lc (own := [("bed", 1)]) (g := gName 1) (by rfl) nd (pi_list (pv 0)) (blkOk_by (own := [("bed", 1)]) (N := ["value", "bed", "lower", "upper"]) (sc := defScope sAreBeds) (by decide +kernel)) (fun _ _ _ _ _ => (pg_name (i := 1) nd rfl (Or.inl rfl))) (fun _ _ _ _ _ => pts_nil) (fun _ _ _ _ _ => (pe_call GB (hr.mono (by decide)) (by rfl) DB.M DB.F.kp DB.B .nil pass0 (pa_cons (pv 1) pa_nil)))) pa_nil))))
      (pss_one (ps_ret pe_bl))
      pss_nil)
    (pss_one (ps_ret (pe_not (pe_callB (cr_any rfl) (by rfl) T.any (by decide +kernel) (pa_cons (pe_lc (own := [("lower", 2), ("upper", 3)]) (g := gTup K 2 (gCons (gName 2) (gCons (gName 3) gNil))) (by rfl) nd (pi_zip (by rfl) T.zip (pa_cons (pv 0) (pa_cons (pe_slice sl_list (pv 0) (po_some pe_int) po_none) pa_nil))) (blkOk_by (own := [("lower", 2), ("upper", 3)]) (N := ["value", "bed", "lower", "upper"]) (sc := defScope sAreBeds) (by decide +kernel)) (fun _ _ _ _ _ => (pg_tup rfl (pgs_cons (pg_name (i := 2) nd rfl (.inl rfl) (.inr rfl)) (pgs_cons (pg_name (i := 3) nd rfl (.inl rfl) (.inr rfl)) pgs_nil)))) (fun _ _ _ _ _ => pts_nil) (fun _ _ _ _ _ => (pe_call GM (hr.mono (by decide)) (by rfl) DM.M DM.F.kp DM.B .nil pass0 (pa_cons (pv 2) (pa_cons (pe_ix (show IxR _ (rIxT K) from ix_tup) (pv 3) pe_int (fun _ _ => rfl)) pa_nil))))) pa_nil))))))), ?_⟩
    -- isinstance(value, (list, tuple))
    refine ⟨_, rfl, (by show 2 ≤ sizeLine; decide), fun p np => ⟨_, p, _, .type "list", [.type "list", .type "tuple"], true, rfl, upd_same, .cons (.ty _) (.cons (.ty _) .nil), .base (.lst (new_same np _ _ ha)),
      kitAny_cons (b := true) (kit_ty (show kitB "list" "list" = some true by decide +kernel)) (fun h => Bool.noConfusion h) (fun _ => rfl), _, rfl, ?_⟩⟩
    refine iteF ?_
    -- all([is_bed(bed) ..])
    refine ⟨_, rfl, a, rfl, ⟨_, .inl (.inl (new_same np _ _ ha))⟩, fun D nD => ?_⟩
    refine lc_list (K := K) (a := a) (xs := xs) (fun i Hi => Hi D = some (.lst ((List.replicate i true).map V.bl)) ∧ ∀ b o, b ≠ D → H b = some o → Hi b = some o) ⟨upd_same, fun b o nb e => by rw [upd_ne nb]; exact new_same np _ _ e⟩ (fun i Hi _ ⟨_, k⟩ => .inl (.inl (k _ _ (ne_of_none (new_same np _ _ ha) nD) ha))) ?_ ?_
    · rintro i x Hi hx ⟨hD, k⟩
      have nDH : ∀ b o, H b = some o → b ≠ D := fun b o e => ne_of_none (new_same np _ _ e) nD
      obtain ⟨bd, ab, hb, rfl, _, hab⟩ := beds_get S hx
      refine ⟨rfl, _, rfl, ab, bd, rfl, k _ _ (nDH _ _ hab) hab, G.all _ (List.mem_of_getElem? hb), fun H1 s1 => ?_⟩
      have hi : i < bs.length := (List.getElem?_eq_some_iff.mp hb).1
      refine ⟨_, s1 _ _ hD, by rw [List.length_map, List.length_replicate]; exact small1000 (by omega), ?_, fun b o nb e => by rw [upd_ne nb]; exact s1 _ _ (k b o nb e)⟩
      rw [upd_same, List.replicate_succ', List.map_append]
      rfl
    rintro H2 ⟨hD, k2⟩
    have s2 : Same H H2 := fun b o e => k2 b o (ne_of_none (new_same np _ _ e) nD) e
    have e1 : (List.replicate xs.length true).all id = true := by
      rw [List.all_eq_true]
      intro x hx
      rw [(List.mem_replicate.mp hx).2]
      rfl
    refine ⟨D, _, rfl, .inl (.inl hD), _, rfl, ?_⟩
    rw [e1]
    refine iteF ?_
    -- not any([merges(..) ..])
    refine ⟨_, rfl, _, rfl, 1, rfl, a, xs, rfl, .inl (.inl (s2 _ _ ha)), fun p2 np2 => ?_⟩
    rw [cut_one]
    have s3 : Same H2 (upd H2 p2 (.lst (xs.drop 1))) := new_same np2
    refine ⟨a, p2, xs, xs.drop 1, rfl, .inl (.inl (s3 _ _ (s2 _ _ ha))), .inl (.inl upd_same), fun D2 nD2 => ?_⟩
    have hp2 : (upd H2 p2 (.lst (xs.drop 1))) p2 = some (.lst (xs.drop 1)) := upd_same
    generalize upd H2 p2 (.lst (xs.drop 1)) = H3 at s3 hp2 nD2 ⊢
    have s03 := s2.trans s3
    refine lc_it (walk_zip (xs := xs) (ys := xs.drop 1) (n := xs.length - 1) (by rw [List.length_drop]; omega)) (fun i Hi => Hi D2 = some (.lst ((List.replicate i false).map V.bl)) ∧ ∀ b o, b ≠ D2 → H3 b = some o → Hi b = some o) ⟨upd_same, fun b o nb e => by rw [upd_ne nb]; exact e⟩
      (fun i Hi _ ⟨_, k⟩ => ⟨.inl (.inl (k _ _ (ne_of_none (s03 _ _ ha) nD2) (s03 _ _ ha))), .inl (.inl (k _ _ (ne_of_none hp2 nD2) hp2))⟩) ?_ ?_
    · rintro i y Hi Hj hi ⟨hD2, k⟩ ⟨t, x1, x2, rfl, nt, rfl, f1, f2⟩
      have nDH : ∀ b o, H b = some o → b ≠ D2 := fun b o e => ne_of_none (s03 _ _ e) nD2
      have f2' : xs[i + 1]? = some x2 := by
        have h : (xs.drop 1)[i]? = some x2 := f2
        rwa [List.getElem?_drop, Nat.add_comm] at h
      obtain ⟨b1, a1, hb1, rfl, _, ha1⟩ := beds_get S f1
      obtain ⟨b2, a2, hb2, rfl, _, ha2⟩ := beds_get S f2'
      have st : Same Hi (upd Hi t (.tup [.ref a1, .ref a2])) := new_same nt
      have g1 := st _ _ (k _ _ (nDH _ _ ha1) (s03 _ _ ha1))
      have g2 := st _ _ (k _ _ (nDH _ _ ha2) (s03 _ _ ha2))
      have gD := st _ _ hD2
      have nm : decide (b1.rock = b2.rock ∧ b1.mark = none) = false := decide_eq_false (apart_at G.apart hb1 hb2)
      refine ⟨t, _, rfl, .inl (.inl upd_same), rfl, _, _, rfl, _, _, rfl, rfl, ?_⟩
      refine ⟨rfl, _, rfl, _, rfl, a2, bedV b2, 0, .str b2.rock, rfl, rfl, .inl (.inl g2), rfl, a1, b1, b2.rock, rfl, g1, ?_⟩
      rw [nm]
      refine ⟨_, gD, by rw [List.length_map, List.length_replicate]; exact small1000 (by omega), ?_, fun b o nb e => by rw [upd_ne nb]; exact st _ _ (k b o nb e)⟩
      rw [upd_same, List.replicate_succ', List.map_append]
      rfl
    rintro H4 ⟨hD4, k4⟩
    have e2 : (List.replicate (xs.length - 1) false).any id = false := by
      rw [List.any_eq_false]
      intro x hx
      rw [(List.mem_replicate.mp hx).2]
      exact Bool.false_ne_true
    refine ⟨D2, _, rfl, .inl (.inl hD4), ?_⟩
    rw [e2]
    exact ⟨_, rfl, q H4 fun b o e => k4 b o (ne_of_none (s03 _ _ e) nD2) (s03 _ _ e)⟩
theorem ok_areT {f fB fM fN fL : Addr} {fd fdB fdM fdN fdL : FuncData} {tN : Tok} (F : Fun K "are_beds" "are_beds" sAreBeds f fd) (T : Txt mg) (DB : DefAt K mg "is_bed" sIsBed ["value"] fB fdB) (DM : DefAt K mg "merges" sMerges ["bed", "rock"] fM fdM)
    (DN : DefAt K mg "is_name" sIsName ["value"] fN fdN) (DL : DefAt K mg "is_level" sIsLevel ["value"] fL fdL) (mgLONGEST_NAME : mg "LONGEST_NAME" = some (.int 8 tN)) : FnOk P w K mg base CX0 3 f fd ["value"] (spAreT K) := by
  have GB : FnOk P w K mg base CX0 2 fB fdB ["value"] spIsBed := ok_is_bed DB.F T DN DL mgLONGEST_NAME
  have GM : FnOk P w K mg base CX0 1 fM fdM ["bed", "rock"] spMerges := ok_merges DM.F
  refine F.ok scAre (fun vs H Q E h => ?_) (fun cdv A outer s H vs Q E hr h => ?_)
  · obtain ⟨a, xs, bs, X, rfl, _⟩ := h
    rfl
  · obtain ⟨a, xs, bs, X, rfl, ha, hty, S, G, hl, q⟩ := h
    have nd := scAre.nd
    have hlen := beds_len S
    refine ⟨_, (pss_cons (ps_if (pt_not (pt_val (pe_callB call_isiT (by rfl) T.isinstance (by decide +kernel) (pa_cons (pv 0) (pa_cons (pe_tup (pa_cons (pe_bltn (v := .ty "list") (by rfl) T.list (by decide +kernel) rfl) (pa_cons (pe_bltn (v := .ty "tuple") (by rfl) T.tuple (by decide +kernel) rfl) pa_nil))) pa_nil)))))
      (pss_one (ps_ret pe_bl))
      pss_nil)
    (pss_cons (ps_if (pt_not (pt_val (pe_callB (cr_all rfl) (by rfl) T.all (by decide +kernel) (pa_cons (pe_lc (own := [("bed", 1)]) (g := gName 1) (by rfl) nd (pi_tup (pv 0)) (blkOk_by (own := [("bed", 1)]) (N := ["value", "bed", "lower", "upper"]) (sc := defScope sAreBeds) (by decide +kernel)) (fun _ _ _ _ _ => (pg_name (i := 1) nd rfl (Or.inl rfl))) (fun _ _ _ _ _ => pts_nil) (fun _ _ _ _ _ => (pe_call GB (hr.mono (by decide)) (by rfl) DB.M DB.F.kp DB.B .nil pass0 (pa_cons (pv 1) pa_nil)))) pa_nil))))
      (pss_one (ps_ret pe_bl))
      pss_nil)
    (pss_one (ps_ret (pe_not (pe_callB (cr_any rfl) (by rfl) T.any (by decide +kernel) (pa_cons (pe_lc (own := [("lower", 2), ("upper", 3)]) (g := gTup K 2 (gCons (gName 2) (gCons (gName 3) gNil))) (by rfl) nd (RZ.pi_zipA (by rfl) T.zip (pa_cons (pv 0) (pa_cons (pe_slice sl_tupA (pv 0) (po_some pe_int) po_none) pa_nil))) (blkOk_by (own := [("lower", 2), ("upper", 3)]) (N := ["value", "bed", "lower", "upper"]) (sc := defScope sAreBeds) (by decide +kernel)) (fun _ _ _ _ _ => (pg_tup rfl (pgs_cons (pg_name (i := 2) nd rfl (.inl rfl) (.inr rfl)) (pgs_cons (pg_name (i := 3) nd rfl (.inl rfl) (.inr rfl)) pgs_nil)))) (fun _ _ _ _ _ => pts_nil) (fun _ _ _ _ _ => (pe_call GM (hr.mono (by decide)) (by rfl) DM.M DM.F.kp DM.B .nil pass0 (pa_cons (pv 2) (pa_cons (pe_ix (show IxR _ (rIxT K) from ix_tup) (pv 3) pe_int (fun _ _ => rfl)) pa_nil))))) pa_nil))))))), ?_⟩
    -- isinstance(value, (list, tuple))
    refine ⟨_, rfl, (by show 2 ≤ sizeLine; decide), fun p np => ⟨_, p, _, .type "tuple", [.type "list", .type "tuple"], true, rfl, upd_same, .cons (.ty _) (.cons (.ty _) .nil), same_ty (new_same np) hty,
      kit_lt (by decide +kernel) (by decide +kernel), _, rfl, ?_⟩⟩
    refine iteF ?_
    -- all([is_bed(bed) ..])
    refine ⟨_, rfl, a, rfl, ⟨_, same_seqT (new_same np) ha⟩, fun D nD => ?_⟩
    refine lc_tup (K := K) (a := a) (xs := xs) (fun i Hi => Hi D = some (.lst ((List.replicate i true).map V.bl)) ∧ ∀ b o, b ≠ D → H b = some o → Hi b = some o) ⟨upd_same, fun b o nb e => by rw [upd_ne nb]; exact new_same np _ _ e⟩ (fun i Hi _ ⟨_, k⟩ => same_seqT (fun b o e => k b o (ne_of_none (new_same np _ _ e) nD) e) ha) ?_ ?_
    · rintro i x Hi hx ⟨hD, k⟩
      have nDH : ∀ b o, H b = some o → b ≠ D := fun b o e => ne_of_none (new_same np _ _ e) nD
      obtain ⟨bd, ab, hb, rfl, _, hab⟩ := beds_get S hx
      refine ⟨rfl, _, rfl, ab, bd, rfl, k _ _ (nDH _ _ hab) hab, G.all _ (List.mem_of_getElem? hb), fun H1 s1 => ?_⟩
      have hi : i < bs.length := (List.getElem?_eq_some_iff.mp hb).1
      refine ⟨_, s1 _ _ hD, by rw [List.length_map, List.length_replicate]; exact small1000 (by omega), ?_, fun b o nb e => by rw [upd_ne nb]; exact s1 _ _ (k b o nb e)⟩
      rw [upd_same, List.replicate_succ', List.map_append]
      rfl
    rintro H2 ⟨hD, k2⟩
    have s2 : Same H H2 := fun b o e => k2 b o (ne_of_none (new_same np _ _ e) nD) e
    have e1 : (List.replicate xs.length true).all id = true := by
      rw [List.all_eq_true]
      intro x hx
      rw [(List.mem_replicate.mp hx).2]
      rfl
    refine ⟨D, _, rfl, .inl (.inl hD), _, rfl, ?_⟩
    rw [e1]
    refine iteF ?_
    -- not any([merges(..) ..])
    refine ⟨_, rfl, _, rfl, 1, rfl, a, xs, rfl, same_seqT s2 ha, fun hw => ?_, fun hw p2 np2 => ?_⟩
    · have h0 : xs = [] := by
        have h1 := hw.1
        rw [show HT.sIx xs.length 0 (some 1) = min 1 xs.length from HT.sIx_nat xs.length 0 1] at h1
        exact List.eq_nil_of_length_eq_zero (by omega)
      subst h0
      refine ⟨a, a, [], [], rfl, .inr ⟨same_seqT s2 ha, same_seqT s2 ha, fun D2 nD2 => ?_⟩⟩
      refine lc_it (walk_zipT (xs := []) (ys := []) (n := 0) rfl) (fun i Hi => Hi D2 = some (.lst []) ∧ ∀ b o, b ≠ D2 → H2 b = some o → Hi b = some o) ⟨upd_same, fun b o nb e => by rw [upd_ne nb]; exact e⟩
        (fun i Hi _ ⟨_, k⟩ => ⟨same_seqT (fun b o e => k b o (ne_of_none (s2 _ _ e) nD2) (s2 _ _ e)) ha, same_seqT (fun b o e => k b o (ne_of_none (s2 _ _ e) nD2) (s2 _ _ e)) ha⟩) (fun i y Hi Hj hi => absurd hi (Nat.not_lt_zero _)) ?_
      rintro H4 ⟨hD4, k4⟩
      exact ⟨D2, [], rfl, .inl (.inl hD4), _, rfl, q H4 fun b o e => k4 b o (ne_of_none (s2 _ _ e) nD2) (s2 _ _ e)⟩
    rw [cut_one]
    have s3 : Same H2 (upd H2 p2 (.tup (xs.drop 1))) := new_same np2
    refine ⟨a, p2, xs, xs.drop 1, rfl, .inr ⟨same_seqT (s2.trans s3) ha, .inl (.inl upd_same), fun D2 nD2 => ?_⟩⟩
    have hp2 : (upd H2 p2 (.tup (xs.drop 1))) p2 = some (.tup (xs.drop 1)) := upd_same
    generalize upd H2 p2 (.tup (xs.drop 1)) = H3 at s3 hp2 nD2 ⊢
    have s03 := s2.trans s3
    refine lc_it (walk_zipT (xs := xs) (ys := xs.drop 1) (n := xs.length - 1) (by rw [List.length_drop]; omega)) (fun i Hi => Hi D2 = some (.lst ((List.replicate i false).map V.bl)) ∧ ∀ b o, b ≠ D2 → H3 b = some o → Hi b = some o) ⟨upd_same, fun b o nb e => by rw [upd_ne nb]; exact e⟩
      (fun i Hi _ ⟨_, k⟩ => ⟨same_seqT (fun b o e => k b o (ne_of_none (s03 _ _ e) nD2) (s03 _ _ e)) ha, .inl (.inl (k _ _ (ne_of_none hp2 nD2) hp2))⟩) ?_ ?_
    · rintro i y Hi Hj hi ⟨hD2, k⟩ ⟨t, x1, x2, rfl, nt, rfl, f1, f2⟩
      have nDH : ∀ b o, H b = some o → b ≠ D2 := fun b o e => ne_of_none (s03 _ _ e) nD2
      have f2' : xs[i + 1]? = some x2 := by
        have h : (xs.drop 1)[i]? = some x2 := f2
        rwa [List.getElem?_drop, Nat.add_comm] at h
      obtain ⟨b1, a1, hb1, rfl, _, ha1⟩ := beds_get S f1
      obtain ⟨b2, a2, hb2, rfl, _, ha2⟩ := beds_get S f2'
      have st : Same Hi (upd Hi t (.tup [.ref a1, .ref a2])) := new_same nt
      have g1 := st _ _ (k _ _ (nDH _ _ ha1) (s03 _ _ ha1))
      have g2 := st _ _ (k _ _ (nDH _ _ ha2) (s03 _ _ ha2))
      have gD := st _ _ hD2
      have nm : decide (b1.rock = b2.rock ∧ b1.mark = none) = false := decide_eq_false (apart_at G.apart hb1 hb2)
      refine ⟨t, _, rfl, .inl (.inl upd_same), rfl, _, _, rfl, _, _, rfl, rfl, ?_⟩
      refine ⟨rfl, _, rfl, _, rfl, a2, bedV b2, 0, .str b2.rock, rfl, rfl, .inl (.inl g2), rfl, a1, b1, b2.rock, rfl, g1, ?_⟩
      rw [nm]
      refine ⟨_, gD, by rw [List.length_map, List.length_replicate]; exact small1000 (by omega), ?_, fun b o nb e => by rw [upd_ne nb]; exact st _ _ (k b o nb e)⟩
      rw [upd_same, List.replicate_succ', List.map_append]
      rfl
    rintro H4 ⟨hD4, k4⟩
    have e2 : (List.replicate (xs.length - 1) false).any id = false := by
      rw [List.any_eq_false]
      intro x hx
      rw [(List.mem_replicate.mp hx).2]
      exact Bool.false_ne_true
    refine ⟨D2, _, rfl, .inl (.inl hD4), ?_⟩
    rw [e2]
    exact ⟨_, rfl, q H4 fun b o e => k4 b o (ne_of_none (s03 _ _ e) nD2) (s03 _ _ e)⟩
/-! ### a column -/
structure Col where
  root : Option Str
  foot : Int
  cap : Option Str
  beds : List Bed
structure GoodC (c : Col) : Prop where
  root : okO c.root
  cap : okO c.cap
  beds : GoodBs c.beds
abbrev sInit : Stmt := (inClass (top 23) 0)
abbrev sPFoot : Stmt := (inClass (top 23) 1)
abbrev sPBeds : Stmt := (inClass (top 23) 2)
abbrev sPRoot : Stmt := (inClass (top 23) 3)
abbrev sPMark : Stmt := (inClass (top 23) 4)
/-- the class as the top has made it -/
structure ColF (K : PySem.W.Frag) (mg : Str → Option Value) where
  C : Addr
  cl : Cls K C
  mgC : mg "Column" = some (.ref C)
  nFoot : NoAttr K C "_foot"
  nBeds : NoAttr K C "_beds"
  nRoot : NoAttr K C "_root"
  nMark : NoAttr K C "_mark"
  t0 : Addr
  ht0 : ∀ H, SqT K H t0 []
  ty0 : ∀ H, TyX K H (.ref t0) (.type "tuple")
  fI : Addr
  fdI : FuncData
  FI : FunD K "__init__" "Column.__init__" (defArgs sInit) (defBody sInit) (defScope sInit) [.int 0, .ref t0] [("root", .non), ("mark", .non)] fI fdI
  mkC : Mk K C fI
  g2 : List Value → List Value → List Value
  g1 : List Value → List Value → List Value
  g0 : List Value → List Value → List Value
  kb2rm : KBn K fdI ["self", "foot", "beds", "root", "mark"] 3 ["root", "mark"] g2 (fun vs zs => vs ++ zs)
  kb1rm : KBn K fdI ["self", "foot", "beds", "root", "mark"] 2 ["root", "mark"] g1 (fun vs zs => vs ++ (.ref t0 :: zs))
  kb1r : KBn K fdI ["self", "foot", "beds", "root", "mark"] 2 ["root"] g0 (fun vs zs => vs ++ (.ref t0 :: (zs ++ [.non])))
  p1 : Addr
  q1 : Addr
  d1 : FuncData
  pFoot : PropOf K C "foot" p1 q1
  FpFoot : Fun K "foot" "Column.foot" sPFoot q1 d1
  bFoot : Binds K d1 ["self"] []
  p2 : Addr
  q2 : Addr
  d2 : FuncData
  pBeds : PropOf K C "beds" p2 q2
  FpBeds : Fun K "beds" "Column.beds" sPBeds q2 d2
  bBeds : Binds K d2 ["self"] []
  p3 : Addr
  q3 : Addr
  d3 : FuncData
  pRoot : PropOf K C "root" p3 q3
  FpRoot : Fun K "root" "Column.root" sPRoot q3 d3
  bRoot : Binds K d3 ["self"] []
  p4 : Addr
  q4 : Addr
  d4 : FuncData
  pMark : PropOf K C "mark" p4 q4
  FpMark : Fun K "mark" "Column.mark" sPMark q4 d4
  bMark : Binds K d4 ["self"] []
def cF (foot : Int) (b : Addr) (root cap : Option Str) : List (Str × V) := [("_foot", .int foot), ("_beds", .ref b), ("_root", oV root), ("_mark", oV cap)]
theorem kFB : ¬ ("_foot" : Str) = "_beds" := by decide +kernel
theorem kFR : ¬ ("_foot" : Str) = "_root" := by decide +kernel
theorem kFM : ¬ ("_foot" : Str) = "_mark" := by decide +kernel
theorem kBR : ¬ ("_beds" : Str) = "_root" := by decide +kernel
theorem kBM : ¬ ("_beds" : Str) = "_mark" := by decide +kernel
theorem kRM : ¬ ("_root" : Str) = "_mark" := by decide +kernel
theorem cF_foot (f : Int) (b : Addr) (r s : Option Str) : (cF f b r s).lookup ("_foot" : Str) = some (V.int f) := by
  unfold cF
  rw [List.lookup_cons_self]
theorem lk_ne {a b : Str} {v : V} {l : List (Str × V)} (h : ¬ b = a) : List.lookup a ((b, v) :: l) = l.lookup a := by
  have : (a == b) = false := beq_eq_false_iff_ne.mpr fun e => h e.symm
  simp only [List.lookup, this]
theorem cF_beds (f : Int) (b : Addr) (r s : Option Str) : (cF f b r s).lookup ("_beds" : Str) = some (V.ref b) := by
  unfold cF
  rw [lk_ne kFB, List.lookup_cons_self]
theorem cF_root (f : Int) (b : Addr) (r s : Option Str) : (cF f b r s).lookup ("_root" : Str) = some (oV r) := by
  unfold cF
  rw [lk_ne kFR, lk_ne kBR, List.lookup_cons_self]
theorem cF_mark (f : Int) (b : Addr) (r s : Option Str) : (cF f b r s).lookup ("_mark" : Str) = some (oV s) := by
  unfold cF
  rw [lk_ne kFM, lk_ne kBM, lk_ne kRM, List.lookup_cons_self]
theorem cF_put (f : Int) (b : Addr) (r s : Option Str) : putF "_mark" (oV s) (putF "_root" (oV r) (putF "_beds" (.ref b) (putF "_foot" (.int f) []))) = cF f b r s := by
  simp only [putF, if_neg kFB, if_neg kFR, if_neg kFM, if_neg kBR, if_neg kBM, if_neg kRM]
  rfl
structure ColAt (C : Addr) (X : Addr → Prop) (H : Hp) (p : Addr) (c : Col) : Prop where
  ex : ∃ (dx b : Addr) (xs : List V), H p = some (.ins C dx (cF c.foot b c.root c.cap)) ∧ ¬ X b ∧ H b = some (.tup xs) ∧ DVs X H xs (c.beds.map bedD)
  np : ¬ X p
theorem ColAt.keep {C p : Addr} {X Y : Addr → Prop} {H H' : Hp} {c : Col} (K : ∀ b o, ¬ X b → H b = some o → H' b = some o ∧ ¬ Y b) (A : ColAt C X H p c) : ColAt C Y H' p c := by
  obtain ⟨⟨dx, b, xs, h1, h2, h3, h4⟩, h5⟩ := A
  exact ⟨⟨dx, b, xs, (K _ _ h5 h1).1, (K _ _ h2 h3).2, (K _ _ h2 h3).1, h4.keep K⟩, (K _ _ h5 h1).2⟩
/-- an object is stored anew -/
theorem pu (H : Hp) (p : Addr) : ∃ U : HO → Hp, (∀ o, upd H p o = U o) ∧ (∀ o, U o p = some o) ∧ ∀ o b, b ≠ p → U o b = H b :=
  ⟨fun o => upd H p o, fun _ => rfl, fun _ => upd_same, fun _ _ nb => upd_ne nb⟩
/-- a tuple that is read stays, whatever an instance at p becomes -/
theorem seqT_at {H H' : Hp} {p C dx a : Addr} {fs : List (Str × V)} {xs : List V} (hp : H p = some (.ins C dx fs)) (k : ∀ x o, x ≠ p → H x = some o → H' x = some o) (h : SqT K H a xs) : SqT K H' a xs := by
  rcases h with (h | ⟨o, h⟩) | h
  · exact .inl (.inl (k _ _ (ne_of h hp (by intro z; cases z)) h))
  · exact .inl (.inr ⟨o, k _ _ (ne_of h hp (by intro z; cases z)) h⟩)
  · exact .inr h
/-- __init__ over a list -/
def spInitL (C : Addr) : Sp := fun vs H Q _ => ∃ (p dx a : Addr) (xs : List V) (X : Addr → Prop) (c : Col), vs = [.ref p, .int c.foot, .ref a, oV c.root, oV c.cap] ∧ H p = some (.ins C dx []) ∧ H a = some (.lst xs) ∧ DVs X H xs (c.beds.map bedD) ∧ GoodC c ∧ c.beds.length ≤ 900 ∧
  ∀ (H' : Hp) (b : Addr) (ys : List V), H b = none → H' p = some (.ins C dx (cF c.foot b c.root c.cap)) → H' b = some (.tup ys) → DVs (Old H) H' ys (c.beds.map bedD) → (∀ x o, x ≠ p → H x = some o → H' x = some o) → Q .non H'
theorem scInit : FnScope ["self", "foot", "beds", "root", "mark", "bed"] ["self", "foot", "beds", "root", "mark"] (defScope sInit) := ⟨rfl, rfl, rfl, by decide +kernel, rfl, by decide +kernel, by decide +kernel⟩
theorem ok_initL {fAB fB fM fN fL fNN fNL fNO : Addr} {fdAB fdB fdM fdN fdL fdNN fdNL fdNO : FuncData} {tN : Tok} (C : ColF K mg) (T : Txt mg) (DAB : DefAt K mg "are_beds" sAreBeds ["value"] fAB fdAB) (DB : DefAt K mg "is_bed" sIsBed ["value"] fB fdB) (DM : DefAt K mg "merges" sMerges ["bed", "rock"] fM fdM)
    (DN : DefAt K mg "is_name" sIsName ["value"] fN fdN) (DL : DefAt K mg "is_level" sIsLevel ["value"] fL fdL) (DNN : DefAt K mg "need_name" sNeedName ["value"] fNN fdNN) (DNL : DefAt K mg "need_level" sNeedLevel ["value"] fNL fdNL) (DNO : DefAt K mg "need_name_or_none" sNeedNameOrNone ["value"] fNO fdNO)
    (mgLONGEST_NAME : mg "LONGEST_NAME" = some (.int 8 tN)) : FnOk P w K mg base CX0 4 C.fI C.fdI ["self", "foot", "beds", "root", "mark"] (spInitL C.C) := by
  have GABl : FnOk P w K mg base CX0 3 fAB fdAB ["value"] spAreL := ok_areL DAB.F T DB DM DN DL mgLONGEST_NAME
  have GNL : FnOk P w K mg base CX0 2 fNL fdNL ["value"] spNeedLevel := ok_need_level DNL.F T DL
  have GNO : FnOk P w K mg base CX0 3 fNO fdNO ["value"] spNeedO := ok_need_o DNO.F T DN DNN mgLONGEST_NAME
  refine C.FI.ok scInit (fun vs H Q E h => ?_) (fun cdv A outer s H vs Q E hr h => ?_)
  · obtain ⟨p, dx, a, xs, X, c, rfl, _⟩ := h
    rfl
  · obtain ⟨p, dx, a, xs, X, c, rfl, hp, ha, S, G, hl, q⟩ := h
    have nd := scInit.nd
    have hlen := beds_len S
    suffices hh : ∃ t, PSs (cxOf CX0 P w K mg base ["self", "foot", "beds", "root", "mark", "bed"] "Column.__init__" (defScope sInit) C.fI cdv A outer s H E).nox (defBody sInit) t ∧ t { nx := fun _ H' => Q .non H', rt := Q } (start ["self", "foot", "beds", "root", "mark", "bed"] [.ref p, .int c.foot, .ref a, oV c.root, oV c.cap]) H from
      let ⟨t, h1, h2⟩ := hh; ⟨t, h1.nox, h2⟩
    refine ⟨_, (pss_cons (ps_expr (pe_call GNL (hr.mono (by decide)) (by rfl) DNL.M DNL.F.kp DNL.B .nil pass0 (pa_cons (pv 1) pa_nil)))
    (pss_cons (ps_if (pt_not (pt_val (pe_call GABl (hr.mono (by decide)) (by rfl) DAB.M DAB.F.kp DAB.B .nil pass0 (pa_cons (pv 2) pa_nil))))
      (pss_one ps_never)
      pss_nil)
    (pss_cons (ps_expr (pe_call GNO (hr.mono (by decide)) (by rfl) DNO.M DNO.F.kp DNO.B .nil pass0 (pa_cons (pv 3) pa_nil)))
    (pss_cons (ps_expr (pe_call GNO (hr.mono (by decide)) (by rfl) DNO.M DNO.F.kp DNO.B .nil pass0 (pa_cons (pv 4) pa_nil)))
    (pss_cons (ps_fld (pv 0) (pv 1) rfl)
    (pss_cons (ps_fld (pv 0) (pe_callTy call_tuple_of (by rfl) T.tuple (by decide +kernel) (pa_cons (pe_lc (own := [("bed", 5)]) (g := gName 5) (by rfl) nd (pi_list (pv 2)) (blkOk_by (own := [("bed", 5)]) (N := ["self", "foot", "beds", "root", "mark", "bed"]) (sc := defScope sInit) (by decide +kernel)) (fun _ _ _ _ _ => (pg_name (i := 5) nd rfl (Or.inl rfl))) (fun _ _ _ _ _ => pts_nil) (fun _ _ _ _ _ => (pe_tup (pa_cons (pe_ix (show IxR _ (rIxT K) from ix_tup) (pv 5) pe_int (fun _ _ => rfl)) (pa_cons (pe_ix (show IxR _ (rIxT K) from ix_tup) (pv 5) pe_int (fun _ _ => rfl)) (pa_cons (pe_ix (show IxR _ (rIxT K) from ix_tup) (pv 5) pe_int (fun _ _ => rfl)) pa_nil)))))) pa_nil)) rfl)
    (pss_cons (ps_fld (pv 0) (pv 3) rfl)
    (pss_one (ps_fld (pv 0) (pv 4) rfl))))))))), ?_⟩
    -- the checks
    refine ⟨_, rfl, _, rfl, fun H1 s1 => ?_⟩
    refine ⟨_, rfl, a, xs, c.beds, X, rfl, s1 _ _ ha, same_dvs s1 S, G.beds, hl, fun H2 s2 => ⟨_, rfl, iteF ?_⟩⟩
    refine ⟨_, rfl, _, rfl, G.root, fun H3 s3 => ?_⟩
    refine ⟨_, rfl, _, rfl, G.cap, fun H4 s4 => ?_⟩
    have s14 : Same H H4 := ((s1.trans s2).trans s3).trans s4
    have hp4 := s14 _ _ hp
    -- self._foot = foot
    refine ⟨_, rfl, _, rfl, p, C.C, dx, [], rfl, hp4, C.cl, C.nFoot, (by show 0 < 1000; decide), ?_⟩
    obtain ⟨U5, r5, h5, o5⟩ := pu H4 p
    rw [r5]
    have k5 : ∀ o x y, x ≠ p → H x = some y → U5 o x = some y := fun o x y nx e => Eq.trans (o5 o x nx) (s14 _ _ e)
    have nap : a ≠ p := ne_of ha hp (by intro z; cases z)
    -- self._beds = tuple([..])
    refine ⟨_, rfl, a, rfl, ⟨_, .inl (.inl (k5 _ _ _ nap ha))⟩, fun D nD => ?_⟩
    have nDp : p ≠ D := ne_of_none (h5 _) nD
    refine lc_list (K := K) (a := a) (xs := xs) (fun i Hi => ∃ acc : List V, Hi D = some (.lst acc) ∧ acc.length = i ∧ DVs (fun z => Old H z ∨ z = D) Hi acc ((c.beds.take i).map bedD) ∧ ∀ x y, x ≠ D → U5 (.ins C.C dx (putF "_foot" (.int c.foot) [])) x = some y → Hi x = some y)
      ⟨[], upd_same, rfl, .nil, fun x y nx e => by rw [upd_ne nx]; exact e⟩ (fun i Hi _ ⟨_, _, _, _, k⟩ => .inl (.inl (k _ _ (ne_of_none (k5 _ _ _ nap ha) nD) (k5 _ _ _ nap ha)))) ?_ ?_
    · rintro i x Hi hx ⟨acc, hD, hl', SA, k⟩
      obtain ⟨bd, ab, hb, rfl, _, hab⟩ := beds_get S hx
      have nabp : ab ≠ p := ne_of hab hp (by intro z; cases z)
      have hab' := k5 (.ins C.C dx (putF "_foot" (.int c.foot) [])) _ _ nabp hab
      have hab2 := k _ _ (ne_of_none hab' nD) hab'
      have hi : i < c.beds.length := (List.getElem?_eq_some_iff.mp hb).1
      refine ⟨rfl, _, rfl, ab, bedV bd, 0, _, rfl, rfl, .inl (.inl hab2), rfl, _, rfl, ab, bedV bd, 1, _, rfl, rfl, .inl (.inl hab2), rfl, _, rfl, ab, bedV bd, 2, _, rfl, rfl, .inl (.inl hab2), rfl, (by show 3 ≤ sizeLine; decide), fun t nt => ?_⟩
      have old : ∀ z o, H z = some o → Hi z ≠ none := fun z o e => by
        by_cases hz : z = p
        · rw [hz, k p _ nDp (h5 _)]; exact fun w => nomatch w
        · have e' := k5 (.ins C.C dx (putF "_foot" (.int c.foot) [])) _ _ hz e
          rw [k _ _ (ne_of_none e' nD) e']
          exact fun w => nomatch w
      have nto : ¬ (Old H t ∨ t = D) := fun z => by
        rcases z with z | z
        · cases e : H t with
          | none => exact z e
          | some o => exact old t o e nt
        · rw [z, hD] at nt; cases nt
      have st := new_same (o := .tup [.str bd.rock, .int bd.th, oV bd.mark]) nt
      refine ⟨acc, st _ _ hD, (by rw [hl']; exact small1000 (by omega)), acc ++ [.ref t], upd_same, (by rw [List.length_append, hl']; rfl), ?_, fun x y nx e => by rw [upd_ne nx]; exact st _ _ (k x y nx e)⟩
      rw [List.take_add_one, hb, List.map_append]
      refine (DVs.append (SA.keep fun b o nb e => ⟨st _ _ e, nb⟩) (.cons (dv_bed nto upd_same) .nil)).keep fun b o nb e => ⟨?_, nb⟩
      rw [upd_ne fun z => nb (.inr z)]
      exact e
    rintro H6 ⟨acc, hD, hl', SA, k6⟩
    rw [hlen, List.take_length] at SA
    refine ⟨D, acc, rfl, .inl ⟨.inl (.inl hD), fun l nl => ?_⟩⟩
    have st := new_same (o := .tup acc) nl
    have hl6 : (upd H6 l (.tup acc)) l = some (.tup acc) := upd_same
    have old6 : ∀ z o, z ≠ p → H z = some o → H6 z = some o := fun z o nz e => by
      have e' := k5 (.ins C.C dx (putF "_foot" (.int c.foot) [])) _ _ nz e
      exact k6 _ _ (ne_of_none e' nD) e'
    have hp6 := k6 p _ nDp (h5 _)
    have nlo : ¬ Old H l := fun z => by
      cases e : H l with
      | none => exact z e
      | some o =>
        by_cases hz : l = p
        · rw [hz, hp6] at nl; cases nl
        · rw [old6 l o hz e] at nl; cases nl
    have hHl : H l = none := by
      cases e : H l with
      | none => rfl
      | some o => exact absurd (old_of e) nlo
    have hp7 := st _ _ hp6
    have SA7 : DVs (Old H) (upd H6 l (.tup acc)) acc (c.beds.map bedD) := SA.keep fun b o nb e => ⟨st _ _ e, fun z => nb (.inl z)⟩
    have k7 : ∀ x o, x ≠ p → H x = some o → (upd H6 l (.tup acc)) x = some o := fun x o nx e => st _ _ (old6 x o nx e)
    generalize upd H6 l (.tup acc) = H7 at hl6 hp7 SA7 k7 ⊢
    have nlp : l ≠ p := fun z => by rw [z, hp7] at hl6; cases hl6
    refine ⟨_, rfl, p, C.C, dx, _, rfl, hp7, C.cl, C.nBeds, (by show 1 < 1000; decide), ?_⟩
    obtain ⟨U8, r8, h8, o8⟩ := pu H7 p
    rw [r8]
    refine ⟨_, rfl, _, rfl, p, C.C, dx, _, rfl, h8 _, C.cl, C.nRoot, (by show 2 < 1000; decide), ?_⟩
    obtain ⟨U9, r9, h9, o9⟩ := pu (U8 (.ins C.C dx (putF "_beds" (.ref l) (putF "_foot" (.int c.foot) [])))) p
    rw [r9]
    refine ⟨_, rfl, _, rfl, p, C.C, dx, _, rfl, h9 _, C.cl, C.nMark, (by show 3 < 1000; decide), ?_⟩
    obtain ⟨U10, r10, h10, o10⟩ := pu (U9 (.ins C.C dx (putF "_root" (oV c.root) (putF "_beds" (.ref l) (putF "_foot" (.int c.foot) []))))) p
    rw [r10]
    have up : ∀ o x, x ≠ p → U10 o x = H7 x := fun o x nx => by rw [o10 o x nx, o9 _ x nx, o8 _ x nx]
    refine q _ l acc hHl ?_ (Eq.trans (up _ l nlp) hl6) (SA7.keep fun b o nb e => ⟨Eq.trans (up _ b fun z => nb (z ▸ old_of hp)) e, nb⟩) (fun x o nx e => Eq.trans (up _ x nx) (k7 x o nx e))
    rw [h10, cF_put]
/-- __init__ over a tuple -/
def spInitT (K : PySem.W.Frag) (C : Addr) : Sp := fun vs H Q _ => ∃ (p dx a : Addr) (xs : List V) (X : Addr → Prop) (c : Col), vs = [.ref p, .int c.foot, .ref a, oV c.root, oV c.cap] ∧ H p = some (.ins C dx []) ∧ SqT K H a xs ∧ TyX K H (.ref a) (.type "tuple") ∧ DVs X H xs (c.beds.map bedD) ∧ GoodC c ∧ c.beds.length ≤ 900 ∧
  ∀ (H' : Hp) (b : Addr) (ys : List V), H b = none → H' p = some (.ins C dx (cF c.foot b c.root c.cap)) → H' b = some (.tup ys) → DVs (Old H) H' ys (c.beds.map bedD) → (∀ x o, x ≠ p → H x = some o → H' x = some o) → Q .non H'
theorem ok_initT {fAB fB fM fN fL fNN fNL fNO : Addr} {fdAB fdB fdM fdN fdL fdNN fdNL fdNO : FuncData} {tN : Tok} (C : ColF K mg) (T : Txt mg) (DAB : DefAt K mg "are_beds" sAreBeds ["value"] fAB fdAB) (DB : DefAt K mg "is_bed" sIsBed ["value"] fB fdB) (DM : DefAt K mg "merges" sMerges ["bed", "rock"] fM fdM)
    (DN : DefAt K mg "is_name" sIsName ["value"] fN fdN) (DL : DefAt K mg "is_level" sIsLevel ["value"] fL fdL) (DNN : DefAt K mg "need_name" sNeedName ["value"] fNN fdNN) (DNL : DefAt K mg "need_level" sNeedLevel ["value"] fNL fdNL) (DNO : DefAt K mg "need_name_or_none" sNeedNameOrNone ["value"] fNO fdNO)
    (mgLONGEST_NAME : mg "LONGEST_NAME" = some (.int 8 tN)) : FnOk P w K mg base CX0 4 C.fI C.fdI ["self", "foot", "beds", "root", "mark"] (spInitT K C.C) := by
  have GABt : FnOk P w K mg base CX0 3 fAB fdAB ["value"] (spAreT K) := ok_areT DAB.F T DB DM DN DL mgLONGEST_NAME
  have GNL : FnOk P w K mg base CX0 2 fNL fdNL ["value"] spNeedLevel := ok_need_level DNL.F T DL
  have GNO : FnOk P w K mg base CX0 3 fNO fdNO ["value"] spNeedO := ok_need_o DNO.F T DN DNN mgLONGEST_NAME
  refine C.FI.ok scInit (fun vs H Q E h => ?_) (fun cdv A outer s H vs Q E hr h => ?_)
  · obtain ⟨p, dx, a, xs, X, c, rfl, _⟩ := h
    rfl
  · obtain ⟨p, dx, a, xs, X, c, rfl, hp, ha, hty, S, G, hl, q⟩ := h
    have nd := scInit.nd
    have hlen := beds_len S
    suffices hh : ∃ t, PSs (cxOf CX0 P w K mg base ["self", "foot", "beds", "root", "mark", "bed"] "Column.__init__" (defScope sInit) C.fI cdv A outer s H E).nox (defBody sInit) t ∧ t { nx := fun _ H' => Q .non H', rt := Q } (start ["self", "foot", "beds", "root", "mark", "bed"] [.ref p, .int c.foot, .ref a, oV c.root, oV c.cap]) H from
      let ⟨t, h1, h2⟩ := hh; ⟨t, h1.nox, h2⟩
    refine ⟨_, (pss_cons (ps_expr (pe_call GNL (hr.mono (by decide)) (by rfl) DNL.M DNL.F.kp DNL.B .nil pass0 (pa_cons (pv 1) pa_nil)))
    (pss_cons (ps_if (pt_not (pt_val (pe_call GABt (hr.mono (by decide)) (by rfl) DAB.M DAB.F.kp DAB.B .nil pass0 (pa_cons (pv 2) pa_nil))))
      (pss_one ps_never)
      pss_nil)
    (pss_cons (ps_expr (pe_call GNO (hr.mono (by decide)) (by rfl) DNO.M DNO.F.kp DNO.B .nil pass0 (pa_cons (pv 3) pa_nil)))
    (pss_cons (ps_expr (pe_call GNO (hr.mono (by decide)) (by rfl) DNO.M DNO.F.kp DNO.B .nil pass0 (pa_cons (pv 4) pa_nil)))
    (pss_cons (ps_fld (pv 0) (pv 1) rfl)
    (pss_cons (ps_fld (pv 0) (pe_callTy call_tuple_of (by rfl) T.tuple (by decide +kernel) (pa_cons (pe_lc (own := [("bed", 5)]) (g := gName 5) (by rfl) nd (pi_tup (pv 2)) (blkOk_by (own := [("bed", 5)]) (N := ["self", "foot", "beds", "root", "mark", "bed"]) (sc := defScope sInit) (by decide +kernel)) (fun _ _ _ _ _ => (pg_name (i := 5) nd rfl (Or.inl rfl))) (fun _ _ _ _ _ => pts_nil) (fun _ _ _ _ _ => (pe_tup (pa_cons (pe_ix (show IxR _ (rIxT K) from ix_tup) (pv 5) pe_int (fun _ _ => rfl)) (pa_cons (pe_ix (show IxR _ (rIxT K) from ix_tup) (pv 5) pe_int (fun _ _ => rfl)) (pa_cons (pe_ix (show IxR _ (rIxT K) from ix_tup) (pv 5) pe_int (fun _ _ => rfl)) pa_nil)))))) pa_nil)) rfl)
    (pss_cons (ps_fld (pv 0) (pv 3) rfl)
    (pss_one (ps_fld (pv 0) (pv 4) rfl))))))))), ?_⟩
    -- the checks
    refine ⟨_, rfl, _, rfl, fun H1 s1 => ?_⟩
    refine ⟨_, rfl, a, xs, c.beds, X, rfl, same_seqT s1 ha, same_ty s1 hty, same_dvs s1 S, G.beds, hl, fun H2 s2 => ⟨_, rfl, iteF ?_⟩⟩
    refine ⟨_, rfl, _, rfl, G.root, fun H3 s3 => ?_⟩
    refine ⟨_, rfl, _, rfl, G.cap, fun H4 s4 => ?_⟩
    have s14 : Same H H4 := ((s1.trans s2).trans s3).trans s4
    have hp4 := s14 _ _ hp
    -- self._foot = foot
    refine ⟨_, rfl, _, rfl, p, C.C, dx, [], rfl, hp4, C.cl, C.nFoot, (by show 0 < 1000; decide), ?_⟩
    obtain ⟨U5, r5, h5, o5⟩ := pu H4 p
    rw [r5]
    have k5 : ∀ o x y, x ≠ p → H x = some y → U5 o x = some y := fun o x y nx e => Eq.trans (o5 o x nx) (s14 _ _ e)
    have ha5 : ∀ o, SqT K (U5 o) a xs := fun o => seqT_at hp (fun x y nx e => k5 o x y nx e) ha
    -- self._beds = tuple([..])
    refine ⟨_, rfl, a, rfl, ⟨_, ha5 _⟩, fun D nD => ?_⟩
    have nDp : p ≠ D := ne_of_none (h5 _) nD
    refine lc_tup (K := K) (a := a) (xs := xs) (fun i Hi => ∃ acc : List V, Hi D = some (.lst acc) ∧ acc.length = i ∧ DVs (fun z => Old H z ∨ z = D) Hi acc ((c.beds.take i).map bedD) ∧ ∀ x y, x ≠ D → U5 (.ins C.C dx (putF "_foot" (.int c.foot) [])) x = some y → Hi x = some y)
      ⟨[], upd_same, rfl, .nil, fun x y nx e => by rw [upd_ne nx]; exact e⟩ (fun i Hi _ ⟨_, _, _, _, k⟩ => same_seqT (fun b o e => k b o (ne_of_none e nD) e) (ha5 _)) ?_ ?_
    · rintro i x Hi hx ⟨acc, hD, hl', SA, k⟩
      obtain ⟨bd, ab, hb, rfl, _, hab⟩ := beds_get S hx
      have nabp : ab ≠ p := ne_of hab hp (by intro z; cases z)
      have hab' := k5 (.ins C.C dx (putF "_foot" (.int c.foot) [])) _ _ nabp hab
      have hab2 := k _ _ (ne_of_none hab' nD) hab'
      have hi : i < c.beds.length := (List.getElem?_eq_some_iff.mp hb).1
      refine ⟨rfl, _, rfl, ab, bedV bd, 0, _, rfl, rfl, .inl (.inl hab2), rfl, _, rfl, ab, bedV bd, 1, _, rfl, rfl, .inl (.inl hab2), rfl, _, rfl, ab, bedV bd, 2, _, rfl, rfl, .inl (.inl hab2), rfl, (by show 3 ≤ sizeLine; decide), fun t nt => ?_⟩
      have old : ∀ z o, H z = some o → Hi z ≠ none := fun z o e => by
        by_cases hz : z = p
        · rw [hz, k p _ nDp (h5 _)]; exact fun w => nomatch w
        · have e' := k5 (.ins C.C dx (putF "_foot" (.int c.foot) [])) _ _ hz e
          rw [k _ _ (ne_of_none e' nD) e']
          exact fun w => nomatch w
      have nto : ¬ (Old H t ∨ t = D) := fun z => by
        rcases z with z | z
        · cases e : H t with
          | none => exact z e
          | some o => exact old t o e nt
        · rw [z, hD] at nt; cases nt
      have st := new_same (o := .tup [.str bd.rock, .int bd.th, oV bd.mark]) nt
      refine ⟨acc, st _ _ hD, (by rw [hl']; exact small1000 (by omega)), acc ++ [.ref t], upd_same, (by rw [List.length_append, hl']; rfl), ?_, fun x y nx e => by rw [upd_ne nx]; exact st _ _ (k x y nx e)⟩
      rw [List.take_add_one, hb, List.map_append]
      refine (DVs.append (SA.keep fun b o nb e => ⟨st _ _ e, nb⟩) (.cons (dv_bed nto upd_same) .nil)).keep fun b o nb e => ⟨?_, nb⟩
      rw [upd_ne fun z => nb (.inr z)]
      exact e
    rintro H6 ⟨acc, hD, hl', SA, k6⟩
    rw [hlen, List.take_length] at SA
    refine ⟨D, acc, rfl, .inl ⟨.inl (.inl hD), fun l nl => ?_⟩⟩
    have st := new_same (o := .tup acc) nl
    have hl6 : (upd H6 l (.tup acc)) l = some (.tup acc) := upd_same
    have old6 : ∀ z o, z ≠ p → H z = some o → H6 z = some o := fun z o nz e => by
      have e' := k5 (.ins C.C dx (putF "_foot" (.int c.foot) [])) _ _ nz e
      exact k6 _ _ (ne_of_none e' nD) e'
    have hp6 := k6 p _ nDp (h5 _)
    have nlo : ¬ Old H l := fun z => by
      cases e : H l with
      | none => exact z e
      | some o =>
        by_cases hz : l = p
        · rw [hz, hp6] at nl; cases nl
        · rw [old6 l o hz e] at nl; cases nl
    have hHl : H l = none := by
      cases e : H l with
      | none => rfl
      | some o => exact absurd (old_of e) nlo
    have hp7 := st _ _ hp6
    have SA7 : DVs (Old H) (upd H6 l (.tup acc)) acc (c.beds.map bedD) := SA.keep fun b o nb e => ⟨st _ _ e, fun z => nb (.inl z)⟩
    have k7 : ∀ x o, x ≠ p → H x = some o → (upd H6 l (.tup acc)) x = some o := fun x o nx e => st _ _ (old6 x o nx e)
    generalize upd H6 l (.tup acc) = H7 at hl6 hp7 SA7 k7 ⊢
    have nlp : l ≠ p := fun z => by rw [z, hp7] at hl6; cases hl6
    refine ⟨_, rfl, p, C.C, dx, _, rfl, hp7, C.cl, C.nBeds, (by show 1 < 1000; decide), ?_⟩
    obtain ⟨U8, r8, h8, o8⟩ := pu H7 p
    rw [r8]
    refine ⟨_, rfl, _, rfl, p, C.C, dx, _, rfl, h8 _, C.cl, C.nRoot, (by show 2 < 1000; decide), ?_⟩
    obtain ⟨U9, r9, h9, o9⟩ := pu (U8 (.ins C.C dx (putF "_beds" (.ref l) (putF "_foot" (.int c.foot) [])))) p
    rw [r9]
    refine ⟨_, rfl, _, rfl, p, C.C, dx, _, rfl, h9 _, C.cl, C.nMark, (by show 3 < 1000; decide), ?_⟩
    obtain ⟨U10, r10, h10, o10⟩ := pu (U9 (.ins C.C dx (putF "_root" (oV c.root) (putF "_beds" (.ref l) (putF "_foot" (.int c.foot) []))))) p
    rw [r10]
    have up : ∀ o x, x ≠ p → U10 o x = H7 x := fun o x nx => by rw [o10 o x nx, o9 _ x nx, o8 _ x nx]
    refine q _ l acc hHl ?_ (Eq.trans (up _ l nlp) hl6) (SA7.keep fun b o nb e => ⟨Eq.trans (up _ b fun z => nb (z ▸ old_of hp)) e, nb⟩) (fun x o nx e => Eq.trans (up _ x nx) (k7 x o nx e))
    rw [h10, cF_put]
/-! ### the readers -/
def spGet (C : Addr) (v : Col → V) : Sp := fun vs H Q _ => ∃ (p : Addr) (c : Col) (X : Addr → Prop), vs = [.ref p] ∧ ColAt C X H p c ∧ Q (v c) H
theorem scSelf1 {st : Stmt} (h : FnScope ["self"] ["self"] (defScope st)) : FnScope ["self"] ["self"] (defScope st) := h
theorem scPFoot : FnScope ["self"] ["self"] (defScope sPFoot) := ⟨rfl, rfl, rfl, by decide +kernel, rfl, by decide +kernel, by decide +kernel⟩
theorem scPBeds : FnScope ["self"] ["self"] (defScope sPBeds) := ⟨rfl, rfl, rfl, by decide +kernel, rfl, by decide +kernel, by decide +kernel⟩
theorem scPRoot : FnScope ["self"] ["self"] (defScope sPRoot) := ⟨rfl, rfl, rfl, by decide +kernel, rfl, by decide +kernel, by decide +kernel⟩
theorem scPMark : FnScope ["self"] ["self"] (defScope sPMark) := ⟨rfl, rfl, rfl, by decide +kernel, rfl, by decide +kernel, by decide +kernel⟩
theorem ok_foot (C : ColF K mg) : FnOk P w K mg base CX0 1 C.q1 C.d1 ["self"] (spGet C.C fun c => .int c.foot) := by
  refine C.FpFoot.ok scPFoot (fun vs H Q E h => ?_) (fun cdv A outer s H vs Q E hr h => ?_)
  · obtain ⟨p, c, X, rfl, _⟩ := h
    rfl
  · obtain ⟨p, c, X, rfl, ⟨⟨dx, b, xs, hp, _⟩, _⟩, q⟩ := h
    refine ⟨_, pss_one (ps_ret (pe_fld (pv 0) rfl)), ?_⟩
    exact ⟨_, rfl, p, C.C, dx, _, _, rfl, hp, C.cl, C.nFoot, cF_foot _ _ _ _, q⟩
theorem ok_root (C : ColF K mg) : FnOk P w K mg base CX0 1 C.q3 C.d3 ["self"] (spGet C.C fun c => oV c.root) := by
  refine C.FpRoot.ok scPRoot (fun vs H Q E h => ?_) (fun cdv A outer s H vs Q E hr h => ?_)
  · obtain ⟨p, c, X, rfl, _⟩ := h
    rfl
  · obtain ⟨p, c, X, rfl, ⟨⟨dx, b, xs, hp, _⟩, _⟩, q⟩ := h
    refine ⟨_, pss_one (ps_ret (pe_fld (pv 0) rfl)), ?_⟩
    exact ⟨_, rfl, p, C.C, dx, _, _, rfl, hp, C.cl, C.nRoot, cF_root _ _ _ _, q⟩
theorem ok_mark (C : ColF K mg) : FnOk P w K mg base CX0 1 C.q4 C.d4 ["self"] (spGet C.C fun c => oV c.cap) := by
  refine C.FpMark.ok scPMark (fun vs H Q E h => ?_) (fun cdv A outer s H vs Q E hr h => ?_)
  · obtain ⟨p, c, X, rfl, _⟩ := h
    rfl
  · obtain ⟨p, c, X, rfl, ⟨⟨dx, b, xs, hp, _⟩, _⟩, q⟩ := h
    refine ⟨_, pss_one (ps_ret (pe_fld (pv 0) rfl)), ?_⟩
    exact ⟨_, rfl, p, C.C, dx, _, _, rfl, hp, C.cl, C.nMark, cF_mark _ _ _ _, q⟩
def spGetBeds (C : Addr) : Sp := fun vs H Q _ => ∃ (p : Addr) (c : Col) (X : Addr → Prop), vs = [.ref p] ∧ ColAt C X H p c ∧ ∀ (b : Addr) (xs : List V), ¬ X b → H b = some (.tup xs) → DVs X H xs (c.beds.map bedD) → Q (.ref b) H
theorem ok_beds (C : ColF K mg) : FnOk P w K mg base CX0 1 C.q2 C.d2 ["self"] (spGetBeds C.C) := by
  refine C.FpBeds.ok scPBeds (fun vs H Q E h => ?_) (fun cdv A outer s H vs Q E hr h => ?_)
  · obtain ⟨p, c, X, rfl, _⟩ := h
    rfl
  · obtain ⟨p, c, X, rfl, ⟨⟨dx, b, xs, hp, nb, hb, S⟩, _⟩, q⟩ := h
    refine ⟨_, pss_one (ps_ret (pe_fld (pv 0) rfl)), ?_⟩
    exact ⟨_, rfl, p, C.C, dx, _, _, rfl, hp, C.cl, C.nBeds, cF_beds _ _ _ _, q b xs nb hb S⟩
/-! ### making one -/
theorem make_heap {H : Hp} {x dx C : Addr} (nx : H x = none) (ndx : H dx = none) (ne : dx ≠ x) : Same H (upd (upd H dx (.own x)) x (.ins C dx [])) := fun b o e => by
  rw [upd_ne (ne_of_none e nx), upd_ne (ne_of_none e ndx)]
  exact e
theorem same_old {H H' : Hp} (s : Same H H') {a : Addr} (h : Old H a) : Old H' a := by
  cases q : H a with
  | none => exact absurd q h
  | some o => exact old_of (s _ _ q)
theorem make_end {C x dx b : Addr} {H H' : Hp} {ys : List V} {c : Col} (nx : H x = none) (ndx : H dx = none) (ne : dx ≠ x) (hb : (upd (upd H dx (.own x)) x (.ins C dx [])) b = none) (hp : H' x = some (.ins C dx (cF c.foot b c.root c.cap))) (hbt : H' b = some (.tup ys))
    (S : DVs (Old (upd (upd H dx (.own x)) x (.ins C dx []))) H' ys (c.beds.map bedD)) : ColAt C (Old H) H' x c := by
  have s := make_heap (C := C) nx ndx ne
  refine ⟨⟨dx, b, ys, hp, fun z => same_old s z hb, hbt, S.keep fun z o nz e => ⟨e, fun w => nz (same_old s w)⟩⟩, fun z => z nx⟩
theorem make_goalL {C a : Addr} {H : Hp} {c : Col} {xs : List V} {X : Addr → Prop} {Q : VK} {E : XK} (ha : H a = some (.lst xs)) (S : DVs X H xs (c.beds.map bedD)) (G : GoodC c) (hl : c.beds.length ≤ 900) (q : ∀ H' p, ColAt C (Old H) H' p c → Same H H' → Q (.ref p) H') :
    ∀ x dx, H x = none → H dx = none → dx ≠ x → spInitL C [.ref x, .int c.foot, .ref a, oV c.root, oV c.cap] (upd (upd H dx (.own x)) x (.ins C dx [])) (fun v H3 => v = .non ∧ Q (.ref x) H3) E := by
  intro x dx nx ndx ne
  have s := make_heap (C := C) nx ndx ne
  refine ⟨x, dx, a, xs, X, c, rfl, upd_same, s _ _ ha, same_dvs s S, G, hl, fun H' b ys hb hp hbt S' k => ⟨rfl, q H' x (make_end nx ndx ne hb hp hbt S') fun z o e => k z o (ne_of_none e nx) (s _ _ e)⟩⟩
theorem make_goalT {C a : Addr} {H : Hp} {c : Col} {xs : List V} {X : Addr → Prop} {Q : VK} {E : XK} (ha : SqT K H a xs) (hty : TyX K H (.ref a) (.type "tuple")) (S : DVs X H xs (c.beds.map bedD)) (G : GoodC c) (hl : c.beds.length ≤ 900) (q : ∀ H' p, ColAt C (Old H) H' p c → Same H H' → Q (.ref p) H') :
    ∀ x dx, H x = none → H dx = none → dx ≠ x → spInitT K C [.ref x, .int c.foot, .ref a, oV c.root, oV c.cap] (upd (upd H dx (.own x)) x (.ins C dx [])) (fun v H3 => v = .non ∧ Q (.ref x) H3) E := by
  intro x dx nx ndx ne
  have s := make_heap (C := C) nx ndx ne
  refine ⟨x, dx, a, xs, X, c, rfl, upd_same, same_seqT s ha, same_ty s hty, same_dvs s S, G, hl, fun H' b ys hb hp hbt S' k => ⟨rfl, q H' x (make_end nx ndx ne hb hp hbt S') fun z o e => k z o (ne_of_none e nx) (s _ _ e)⟩⟩
/-! ### the facts of the program's own defs, together -/
structure Defs (K : PySem.W.Frag) (mg : Str → Option Value) where
  fN : Addr
  fdN : FuncData
  DN : DefAt K mg "is_name" sIsName ["value"] fN fdN
  fL : Addr
  fdL : FuncData
  DL : DefAt K mg "is_level" sIsLevel ["value"] fL fdL
  fNN : Addr
  fdNN : FuncData
  DNN : DefAt K mg "need_name" sNeedName ["value"] fNN fdNN
  fNL : Addr
  fdNL : FuncData
  DNL : DefAt K mg "need_level" sNeedLevel ["value"] fNL fdNL
  fNO : Addr
  fdNO : FuncData
  DNO : DefAt K mg "need_name_or_none" sNeedNameOrNone ["value"] fNO fdNO
  fB : Addr
  fdB : FuncData
  DB : DefAt K mg "is_bed" sIsBed ["value"] fB fdB
  fM : Addr
  fdM : FuncData
  DM : DefAt K mg "merges" sMerges ["bed", "rock"] fM fdM
  fAB : Addr
  fdAB : FuncData
  DAB : DefAt K mg "are_beds" sAreBeds ["value"] fAB fdAB
  tN : Tok
  mgN : mg "LONGEST_NAME" = some (.int 8 tN)
theorem initL (C : ColF K mg) (T : Txt mg) (D : Defs K mg) : FnOk P w K mg base CX0 4 C.fI C.fdI ["self", "foot", "beds", "root", "mark"] (spInitL C.C) := ok_initL C T D.DAB D.DB D.DM D.DN D.DL D.DNN D.DNL D.DNO D.mgN
theorem initT (C : ColF K mg) (T : Txt mg) (D : Defs K mg) : FnOk P w K mg base CX0 4 C.fI C.fdI ["self", "foot", "beds", "root", "mark"] (spInitT K C.C) := ok_initT C T D.DAB D.DB D.DM D.DN D.DL D.DNN D.DNL D.DNO D.mgN
theorem last_split {α : Type} {l : List α} {b : α} (h : l.getLast? = some b) : l = l.dropLast ++ [b] := by
  cases l with
  | nil => cases h
  | cons a r =>
    rw [List.getLast?_eq_getLast (List.cons_ne_nil a r)] at h
    cases h
    exact (List.dropLast_concat_getLast (List.cons_ne_nil a r)).symm
theorem apart_snoc : ∀ {l : List Bed} {y : Bed}, Apart l → (∀ b, l.getLast? = some b → ¬ (b.rock = y.rock ∧ b.mark = none)) → Apart (l ++ [y])
  | [], _, _, _ => trivial
  | [b], y, _, h => ⟨h b rfl, trivial⟩
  | a :: b :: r, y, p, h => ⟨p.1, apart_snoc (l := b :: r) p.2 fun z e => h z (by rw [List.getLast?_cons_cons]; exact e)⟩
/-! ### the law's own columns -/
def colD (c : Col) : PyData := .tuple [oD c.root, .int c.foot, oD c.cap, .list (c.beds.map bedD)]
theorem dv_col {X : Addr → Prop} {H : Hp} {a l : Addr} {xs : List V} {c : Col} (na : ¬ X a) (ha : H a = some (.tup [oV c.root, .int c.foot, oV c.cap, .ref l])) (nl : ¬ X l) (hl : H l = some (.lst xs)) (S : DVs X H xs (c.beds.map bedD)) : DV X H (.ref a) (colD c) :=
  .tup na ha (.cons (dv_o _) (.cons (.int _) (.cons (dv_o _) (.cons (.lst nl hl S) .nil))))
theorem col_inv {X : Addr → Prop} {H : Hp} {v : V} {c : Col} (h : DV X H v (colD c)) : ∃ a l xs, v = .ref a ∧ ¬ X a ∧ H a = some (.tup [oV c.root, .int c.foot, oV c.cap, .ref l]) ∧ ¬ X l ∧ H l = some (.lst xs) ∧ DVs X H xs (c.beds.map bedD) := by
  cases h with
  | tup na ha r =>
    cases r with
    | cons h1 r =>
      cases r with
      | cons h2 r =>
        cases r with
        | cons h3 r =>
          cases r with
          | cons h4 r =>
            cases r
            cases h2
            cases h4 with
            | lst nl hl S =>
              have e1 := o_inv h1
              have e3 := o_inv h3
              subst e1
              subst e3
              exact ⟨_, _, _, rfl, na, ha, nl, hl, S⟩
def spLevel : Sp := fun vs H Q _ => ∃ (d c : Addr) (ns : List Int) (n : Nat), vs = [.ref d] ∧ Feed H d c ns n ∧ n + 5 < 1000000000 ∧
  ∀ (i : Int) (H' : Hp) (n' : Nat), n' ≤ n + 5 → Feed H' d c ns n' → Keep d H H' → Q (.int i) H'
theorem scLevel : FnScope ["_law_feed_here", "_law_near", "_law_far"] ["_law_feed_here"] (defScope sLevel) := ⟨rfl, rfl, rfl, by decide +kernel, rfl, by decide +kernel, by decide +kernel⟩
theorem ok_level {f fD fP : Addr} {fd fdD fdP : FuncData} (F : Fun K "_law_level" "_law_level" sLevel f fd) (T : Txt mg) (D : DefAt K mg "_law_draw" sDraw ["_law_feed_here", "_law_many"] fD fdD) (DP : DefAt K mg "_law_pick" sPick ["_law_feed_here", "_law_options"] fP fdP) : FnOk P w K mg base CX0 3 f fd ["_law_feed_here"] spLevel := by
  have GD : FnOk P w K mg base CX0 1 fD fdD ["_law_feed_here", "_law_many"] spDraw := ok_draw D.F T
  have GPl : FnOk P w K mg base CX0 2 fP fdP ["_law_feed_here", "_law_options"] spPickL := ok_pickL DP.F T D
  refine F.ok scLevel (fun vs H Q E h => ?_) (fun cdv A outer s H vs Q E hr h => ?_)
  · obtain ⟨d, c, ns, n, rfl, _⟩ := h
    rfl
  · obtain ⟨d, c, ns, n, rfl, FD, hn, q⟩ := h
    have hu := hu_of hr
    have nd := scLevel.nd
    refine ⟨_, (pss_cons (ps_par (i := 1) (j := 2) (by rfl) nd rfl rfl (by decide) rfl rfl (pa_cons (pe_op op_sub (pe_call GD (hr.mono (by decide)) (by rfl) D.M D.F.kp D.B .nil pass0 (pa_cons (pv 0) (pa_cons pe_int pa_nil))) pe_int) (pa_cons (pe_op op_add (pe_op op_pow pe_int pe_int) (pe_call GD (hr.mono (by decide)) (by rfl) D.M D.F.kp D.B .nil pass0 (pa_cons (pv 0) (pa_cons (pe_op op_pow pe_int pe_int) pa_nil)))) pa_nil)) (by rfl))
    (pss_one (ps_ret (pe_call GPl (hr.mono (by decide)) (by rfl) DP.M DP.F.kp DP.B .nil pass0 (pa_cons (pv 0) (pa_cons (pe_lst (pa_cons (pv 1) (pa_cons (pv 1) (pa_cons (pv 1) (pa_cons (pv 1) (pa_cons (pv 1) (pa_cons (pv 1) (pa_cons (pe_op op_sub (pe_call GD (hr.mono (by decide)) (by rfl) D.M D.F.kp D.B .nil pass0 (pa_cons (pv 0) (pa_cons pe_int pa_nil))) pe_int) (pa_cons (pv 2) (pa_cons (pe_op op_sub pe_int (pv 2)) pa_nil)))))))))) pa_nil)))))), ?_⟩
    refine ⟨.ref d, rfl, d, c, ns, n, 19, rfl, FD, by omega, by decide, by decide, fun r H1 n1 _ _ hn1 F1 K1 => ⟨_, _, rfl, rfl, 10, 29, rfl, rfl, ⟨by decide, by decide, by decide⟩, ?_⟩⟩
    refine ⟨.ref d, rfl, 10, 6, rfl, rfl, ⟨by decide, by decide, by decide⟩, d, c, ns, n1, _, rfl, F1, by omega, by decide, by decide, fun r2 H2 n2 _ _ hn2 F2 K2 => ⟨_, _, rfl, rfl, _, _, rfl, ?_⟩⟩
    refine ⟨.ref d, rfl, _, rfl, _, rfl, _, rfl, _, rfl, _, rfl, _, rfl, .ref d, rfl, d, c, ns, n2, 200, rfl, F2, by omega, by decide, by decide, fun r3 H3 n3 _ _ hn3 F3 K3 => ⟨_, _, rfl, rfl, _, rfl, _, rfl, _, _, rfl, rfl, (by show 9 ≤ sizeLine; decide), fun p np => ?_⟩⟩
    obtain ⟨U4, r4, F4, k4, h4, n4⟩ := nu F3 np
    rw [r4]
    refine ⟨d, c, ns, n3, p, _, rfl, F4 _, by omega, h4 _, (by show 0 < 9; decide), (by show 9 < 1000000; decide), fun y H5 n5 hy hn5 F5 K5 => ?_⟩
    have hy' : ∃ z : Int, y = .int z := by
      simp only [List.mem_cons, List.not_mem_nil, or_false] at hy
      rcases hy with rfl | rfl | rfl | rfl | rfl | rfl | rfl | rfl | rfl <;> exact ⟨_, rfl⟩
    obtain ⟨z, rfl⟩ := hy'
    exact q z H5 n5 (by omega) F5 (K1.trans (K2.trans (K3.trans ((k4 _).trans K5))))
/-! ### data compared -/
mutual
theorem DV.dp {X : Addr → Prop} {K : PySem.W.Frag} {H : Hp} : ∀ {v : V} {x : PyData}, DV X H v x → x.hasDict = false → Dp K H v x
  | _, _, .non, _ => .non
  | _, _, .bl b, _ => .bl b
  | _, _, .int i, _ => .int i
  | _, _, .str x, _ => .str x
  | _, _, .lst _ h r, n => .lst (.inl (.inl h)) (DVs.dp r (by simpa only [PyData.hasDict] using n))
  | _, _, .tup _ h r, n => .tup (.inl (.inl h)) (DVs.dp r (by simpa only [PyData.hasDict] using n))
  | _, _, .dic _ _ _, n => by simp only [PyData.hasDict, Bool.true_eq_false] at n
theorem DVs.dp {X : Addr → Prop} {K : PySem.W.Frag} {H : Hp} : ∀ {v : List V} {x : List PyData}, DVs X H v x → PyData.hasDictAll x = false → DpAll K H v x
  | _, _, .nil, _ => .nil
  | _, _, .cons h r, n => by
    simp only [PyData.hasDictAll, Bool.or_eq_false_iff] at n
    exact .cons (DV.dp h n.1) (DVs.dp r n.2)
end
theorem str_ok {z : Str} (h : ∀ c ∈ z.cps.toList, c < 1114112) : PyData.strOk z = true := by
  simp only [PyData.strOk]
  rw [← Array.all_toList, List.all_eq_true]
  exact fun c hc => decide_eq_true (h c hc)
theorem o_lay (o : Option Str) (h : okO o) : (oD o).canLay0 = true ∧ (oD o).depth = 0 ∧ (oD o).hasDict = false := by
  cases o with
  | none => exact ⟨by simp only [oD, PyData.canLay0], by simp only [oD, PyData.depth], by simp only [oD, PyData.hasDict]⟩
  | some z =>
    refine ⟨?_, by simp only [oD, PyData.depth], by simp only [oD, PyData.hasDict]⟩
    simp only [oD, PyData.canLay0]
    exact str_ok (word_sm (h z rfl)).2
theorem bed_lay {b : Bed} (G : GoodB b) : (bedD b).canLay0 = true ∧ (bedD b).depth = 1 ∧ (bedD b).hasDict = false := by
  obtain ⟨h1, h2, h3⟩ := o_lay b.mark G.mark
  have hs := str_ok (word_sm G.rock).2
  refine ⟨?_, ?_, ?_⟩
  · simp only [bedD, PyData.canLay0, PyData.canLayAll0, h1, hs, Bool.and_true]
  · simp only [bedD, PyData.depth, PyData.depthAll, h2]; decide
  · simp only [bedD, PyData.hasDict, PyData.hasDictAll, h3, Bool.or_false]
theorem beds_lay : ∀ {bs : List Bed}, (∀ b ∈ bs, GoodB b) → PyData.canLayAll0 (bs.map bedD) = true ∧ PyData.depthAll (bs.map bedD) ≤ 1 ∧ PyData.hasDictAll (bs.map bedD) = false
  | [], _ => ⟨by simp only [List.map_nil, PyData.canLayAll0], by simp only [List.map_nil, PyData.depthAll]; omega, by simp only [List.map_nil, PyData.hasDictAll]⟩
  | b :: r, h => by
    obtain ⟨h1, h2, h3⟩ := bed_lay (h b (List.mem_cons_self ..))
    obtain ⟨h4, h5, h6⟩ := beds_lay (bs := r) fun x hx => h x (List.mem_cons_of_mem _ hx)
    refine ⟨?_, ?_, ?_⟩
    · simp only [List.map_cons, PyData.canLayAll0, h1, h4, Bool.and_true]
    · simp only [List.map_cons, PyData.depthAll, h2]; omega
    · simp only [List.map_cons, PyData.hasDictAll, h3, h6, Bool.or_false]
theorem shaped_beds {bs : List Bed} (h : ∀ b ∈ bs, GoodB b) : SeqAt.shaped (.list (bs.map bedD)) = true ∧ (PyData.list (bs.map bedD)).hasDict = false := by
  obtain ⟨h1, h2, h3⟩ := beds_lay h
  refine ⟨?_, by simp only [PyData.hasDict, h3]⟩
  simp only [SeqAt.shaped, PyData.canLay0, PyData.depth, h1, Bool.true_and]
  exact decide_eq_true (by omega)
theorem shaped_col {c : Col} (G : GoodC c) : SeqAt.shaped (colD c) = true ∧ (colD c).hasDict = false := by
  obtain ⟨h1, h2, h3⟩ := beds_lay G.beds.all
  obtain ⟨r1, r2, r3⟩ := o_lay c.root G.root
  obtain ⟨s1, s2, s3⟩ := o_lay c.cap G.cap
  refine ⟨?_, by simp only [colD, PyData.hasDict, PyData.hasDictAll, h3, r3, s3, Bool.or_false]⟩
  simp only [SeqAt.shaped, colD, PyData.canLay0, PyData.canLayAll0, PyData.depth, PyData.depthAll, h1, r1, r2, s1, s2, Bool.true_and, Bool.and_true]
  exact decide_eq_true (by omega)
/-! ### laid, by the law -/
theorem new_not {X : Addr → Prop} {H : Hp} (hX : ∀ z, X z → Old H z) {p : Addr} (np : H p = none) : ¬ X p := fun z => hX p z np
theorem cut_init (xs : List V) : cutV xs none (some (-1)) = xs.dropLast := by
  unfold cutV
  rw [HT.sIx_none]
  have e : HT.sIx xs.length xs.length (some (-1)) = xs.length - 1 := by
    show (if (-1 : Int) < 0 then ((-1 : Int) + (xs.length : Int)).toNat else min (-1 : Int).toNat xs.length) = _
    rw [if_pos (by decide)]
    omega
  rw [e, List.drop_zero, List.dropLast_eq_take, Nat.sub_zero]
theorem last_bed {X : Addr → Prop} {H : Hp} {xs : List V} {bs : List Bed} (S : DVs X H xs (bs.map bedD)) {bl : Bed} (hx : bs.getLast? = some bl) : ∃ ab, xs.getLast? = some (.ref ab) ∧ ¬ X ab ∧ H ab = some (.tup (bedV bl)) ∧ atI xs (-1) = some (.ref ab) ∧ DVs X H xs.dropLast (bs.dropLast.map bedD) := by
  have hlen := beds_len S
  have es := last_split hx
  have hn : 0 < bs.length := by rw [es, List.length_append]; show 0 < _ + 1; omega
  have hxs : xs ≠ [] := fun z => by rw [z] at hlen; simp at hlen; omega
  obtain ⟨v, hv⟩ : ∃ v, xs.getLast? = some v := ⟨_, List.getLast?_eq_getLast hxs⟩
  have ev := last_split hv
  have hiv : xs[xs.length - 1]? = some v := by rw [← List.getLast?_eq_getElem?]; exact hv
  obtain ⟨bd, ab, hbd, rfl, nx, hab⟩ := beds_get S hiv
  have ebd : bd = bl := by
    rw [hlen, ← List.getLast?_eq_getElem?, hx] at hbd
    exact (Option.some.inj hbd).symm
  subst ebd
  refine ⟨ab, hv, nx, hab, by rw [ev]; exact atI_last _ _, ?_⟩
  have S' := S
  rw [ev, es, List.map_append] at S'
  exact dvs_init rfl S'
/-! ### pools, layers, columns -/
def spPool : Sp := fun vs H Q _ => ∃ (d c : Addr) (ns : List Int) (n : Nat), vs = [.ref d] ∧ Feed H d c ns n ∧ n + 30 < 1000000000 ∧
  ∀ (a : Addr) (zs : List Str) (H' : Hp) (n' : Nat), H' a = some (.lst (zs.map V.str)) → 0 < zs.length → zs.length ≤ 10 → (∀ z ∈ zs, wordB z = true) → ¬ Old H a → n' ≤ n + 25 → Feed H' d c ns n' → Keep d H H' → Q (.ref a) H'
theorem scPool : FnScope ["_law_feed_here"] ["_law_feed_here"] (defScope sPool) := ⟨rfl, rfl, rfl, by decide +kernel, rfl, by decide +kernel, by decide +kernel⟩
theorem ok_pool {f fD fP fNM : Addr} {fd fdD fdP fdNM : FuncData} (F : Fun K "_law_pool" "_law_pool" sPool f fd) (T : Txt mg) (D : DefAt K mg "_law_draw" sDraw ["_law_feed_here", "_law_many"] fD fdD) (DP : DefAt K mg "_law_pick" sPick ["_law_feed_here", "_law_options"] fP fdP) (DNM : DefAt K mg "_law_names" sNames ["_law_feed_here", "_law_many"] fNM fdNM) : FnOk P w K mg base CX0 4 f fd ["_law_feed_here"] spPool := by
  have GD : FnOk P w K mg base CX0 1 fD fdD ["_law_feed_here", "_law_many"] spDraw := ok_draw D.F T
  have GNM : FnOk P w K mg base CX0 3 fNM fdNM ["_law_feed_here", "_law_many"] spNames := ok_names DNM.F T D DP
  refine F.ok scPool (fun vs H Q E h => ?_) (fun cdv A outer s H vs Q E hr h => ?_)
  · obtain ⟨d, c, ns, n, rfl, _⟩ := h
    rfl
  · obtain ⟨d, c, ns, n, rfl, FD, hn, q⟩ := h
    have nd := scPool.nd
    refine ⟨_, (pss_one (ps_ret (pe_call GNM (hr.mono (by decide)) (by rfl) DNM.M DNM.F.kp DNM.B .nil pass0 (pa_cons (pv 0) (pa_cons (pe_op op_add pe_int (pe_call GD (hr.mono (by decide)) (by rfl) D.M D.F.kp D.B .nil pass0 (pa_cons (pv 0) (pa_cons pe_int pa_nil)))) pa_nil))))), ?_⟩
    refine ⟨_, rfl, _, rfl, d, c, ns, n, 4, rfl, FD, by omega, by decide, by decide, fun r H1 n1 r0 r1 hn1 F1 K1 => ⟨_, _, rfl, rfl, ?_⟩⟩
    obtain ⟨m, rfl⟩ : ∃ m : Nat, r = (m : Int) := ⟨r.toNat, by omega⟩
    refine ⟨d, c, ns, n1, 1 + m, (by show [V.ref d, V.int (1 + (m : Int))] = [V.ref d, V.int ((1 + m : Nat) : Int)]; rw [Int.natCast_add]; rfl), F1, by omega, by omega, by omega, fun a zs H' n' ha hl hw no hn' F' K' => ?_⟩
    exact q a zs H' n' ha (by omega) (by omega) hw (fun z => no (Old.mono (X := fun _ => True) K1 F1.old z)) (by omega) F' (K1.trans K')
theorem pick_str {zs : List Str} {x : V} (h : x ∈ zs.map V.str) : ∃ z, z ∈ zs ∧ x = .str z := by
  obtain ⟨z, hz, rfl⟩ := List.mem_map.mp h
  exact ⟨z, hz, rfl⟩
theorem pick_o3 {z : Str} {x : V} (h : x ∈ [V.non, V.non, V.str z]) (hz : wordB z = true) : ∃ o, x = oV o ∧ okO o := by
  simp only [List.mem_cons, List.not_mem_nil, or_false] at h
  rcases h with rfl | rfl | rfl
  · exact ⟨none, rfl, fun _ e => nomatch e⟩
  · exact ⟨none, rfl, fun _ e => nomatch e⟩
  · exact ⟨some z, rfl, fun _ e => by cases e; exact hz⟩
theorem pick_o2 {z : Str} {x : V} (h : x ∈ [V.non, V.str z]) (hz : wordB z = true) : ∃ o, x = oV o ∧ okO o := by
  simp only [List.mem_cons, List.not_mem_nil, or_false] at h
  rcases h with rfl | rfl
  · exact ⟨none, rfl, fun _ e => nomatch e⟩
  · exact ⟨some z, rfl, fun _ e => by cases e; exact hz⟩
def spLayers : Sp := fun vs H Q _ => ∃ (d c : Addr) (ns : List Int) (n m : Nat) (pl : Addr) (zs : List Str), vs = [.ref d, .ref pl, .int m] ∧ Feed H d c ns n ∧ n + 10 * m + 10 < 1000000000 ∧ m ≤ 50 ∧ H pl = some (.lst (zs.map V.str)) ∧ 0 < zs.length ∧ zs.length ≤ 50 ∧ (∀ z ∈ zs, wordB z = true) ∧
  ∀ (H' : Hp) (l : Addr) (ys : List V) (bs : List Bed) (n' : Nat), H' l = some (.lst ys) → DVs (Old H) H' ys (bs.map bedD) → GoodBs bs → bs.length ≤ m → ¬ Old H l → n' ≤ n + 10 * m + 1 → Feed H' d c ns n' → Keep d H H' → Q (.ref l) H'
theorem scLayers : FnScope ["_law_feed_here", "_law_pool_here", "_law_most", "_law_found", "_law_k", "_law_rock", "_law_sign", "_law_thick"] ["_law_feed_here", "_law_pool_here", "_law_most"] (defScope sLayers) := ⟨rfl, rfl, rfl, by decide +kernel, rfl, by decide +kernel, by decide +kernel⟩
set_option maxHeartbeats 4000000 in
theorem ok_layers {f fD fP : Addr} {fd fdD fdP : FuncData} (F : Fun K "_law_layers" "_law_layers" sLayers f fd) (T : Txt mg) (D : DefAt K mg "_law_draw" sDraw ["_law_feed_here", "_law_many"] fD fdD) (DP : DefAt K mg "_law_pick" sPick ["_law_feed_here", "_law_options"] fP fdP) : FnOk P w K mg base CX0 3 f fd ["_law_feed_here", "_law_pool_here", "_law_most"] spLayers := by
  have GD : FnOk P w K mg base CX0 1 fD fdD ["_law_feed_here", "_law_many"] spDraw := ok_draw D.F T
  have GPl : FnOk P w K mg base CX0 2 fP fdP ["_law_feed_here", "_law_options"] spPickL := ok_pickL DP.F T D
  refine F.ok scLayers (fun vs H Q E h => ?_) (fun cdv A outer s H vs Q E hr h => ?_)
  · obtain ⟨d, c, ns, n, m, pl, zs, rfl, _⟩ := h
    rfl
  · obtain ⟨d, c, ns, n, m, pl, zs, rfl, FD, hn, hm, hpl, hz0, hz1, hzw, q⟩ := h
    have nd := scLayers.nd
    refine ⟨_, (pss_cons (ps_set (i := 3) nd rfl (.inl rfl) (pe_lst pa_nil))
    (pss_cons (ps_for PassesOwn.never rfl (pi_range1 (by rfl) T.range (pa_cons (pe_call GD (hr.mono (by decide)) (by rfl) D.M D.F.kp D.B .nil pass0 (pa_cons (pv 0) (pa_cons (pe_op op_add (pv 2) pe_int) pa_nil))) pa_nil)) (pg_name (i := 4) nd rfl (.inl rfl))
      (pss_cons (ps_par (i := 5) (j := 6) (by rfl) nd rfl rfl (by decide) rfl rfl (pa_cons (pe_call GPl (hr.mono (by decide)) (by rfl) DP.M DP.F.kp DP.B .nil pass0 (pa_cons (pv 0) (pa_cons (pv 1) pa_nil))) (pa_cons (pe_call GPl (hr.mono (by decide)) (by rfl) DP.M DP.F.kp DP.B .nil pass0 (pa_cons (pv 0) (pa_cons (pe_lst (pa_cons pe_non (pa_cons pe_non (pa_cons (pe_call GPl (hr.mono (by decide)) (by rfl) DP.M DP.F.kp DP.B .nil pass0 (pa_cons (pv 0) (pa_cons (pv 1) pa_nil))) pa_nil)))) pa_nil))) pa_nil)) (by rfl))
    (pss_cons (ps_set (i := 7) nd rfl (.inl rfl) (pe_call GPl (hr.mono (by decide)) (by rfl) DP.M DP.F.kp DP.B .nil pass0 (pa_cons (pv 0) (pa_cons (pe_lst (pa_cons pe_int (pa_cons pe_int (pa_cons (pe_op op_add pe_int (pe_call GD (hr.mono (by decide)) (by rfl) D.M D.F.kp D.B .nil pass0 (pa_cons (pv 0) (pa_cons pe_int pa_nil)))) (pa_cons (pe_op op_add (pe_op op_pow pe_int pe_int) (pe_call GD (hr.mono (by decide)) (by rfl) D.M D.F.kp D.B .nil pass0 (pa_cons (pv 0) (pa_cons (pe_op op_pow pe_int pe_int) pa_nil)))) pa_nil))))) pa_nil))))
    (pss_one (ps_if (PW.pt (pw_or (pt_cmpR (op_eqD hr.units) (pv 3) (pe_lst pa_nil) (nomark _)) (pw_or (pt_cmpR op_ne (pe_ix ix_tup (pe_ix ix_list (pv 3) (pe_un un_neg pe_int) (fun _ _ => rfl)) pe_int (fun _ _ => rfl)) (pv 5) (nomark _)) (pw_or1 (pt_cmpR op_notN (pe_ix ix_tup (pe_ix ix_list (pv 3) (pe_un un_neg pe_int) (fun _ _ => rfl)) pe_int (fun _ _ => rfl)) pe_non (nomark _))))))
      (pss_one (ps_expr (pe_bm PySem.F.plainAttrs_list PySem.F.slot_list_append PySem.F.type_list_append mt_append (pv 3) (pa_cons (pe_tup (pa_cons (pv 5) (pa_cons (pv 7) (pa_cons (pv 6) pa_nil)))) pa_nil))))
      pss_nil)))))
    (pss_one (ps_ret (pv 3))))), ?_⟩
    refine ⟨Nat.zero_le _, fun k nk => ?_⟩
    obtain ⟨U0, r0, F0, k0, h0, nkd⟩ := nu FD nk
    rw [r0]
    have nkc := FD.nc nk
    refine ⟨_, rfl, _, rfl, _, _, rfl, rfl, d, c, ns, n, _, rfl, F0 _, by omega, by omega, by omega, fun r H1 n1 q0 q1 hn1 F1 K1 => ⟨r, rfl, by omega, by omega, ?_⟩⟩
    refine for_range (lo := 0) (n := r.toNat) (fun i σ Hi => ∃ (n' : Nat) (ys : List V) (bs : List Bed) (y4 y5 y6 y7 : Option V), σ = [some (.ref d), some (.ref pl), some (.int m), some (.ref k), y4, y5, y6, y7] ∧ n' ≤ n + 1 + 8 * i ∧ Feed Hi d c ns n' ∧ Keep d H Hi ∧ Hi k = some (.lst ys) ∧ bs.length ≤ i ∧
        (DVs (fun z => Old H z ∨ z = k) Hi ys (bs.map bedD) ∧ GoodBs bs)) ⟨n1, [], [], none, none, none, none, rfl, by omega, F1, (k0 _).trans K1, K1 _ _ nkd (h0 _), Nat.le_refl _, .nil, ⟨(fun b hb => nomatch hb), trivial⟩⟩ ?_ ?_
    · rintro i σ Hi hi ⟨n', ys, bs, y4, y5, y6, y7, rfl, hn', Fi, ki, hk, hbl, Sy, G⟩
      have hi50 : i < 51 := by omega
      have yl := beds_len Sy
      have hpi := FD.kl ki hpl
      -- rock, sign
      refine ⟨_, rfl, _, rfl, d, c, ns, n', pl, _, rfl, Fi, by omega, hpi, (by rw [List.length_map]; exact hz0), (by rw [List.length_map]; omega), fun x H2 n2 hx hn2 F2 K2 => ?_⟩
      obtain ⟨rk, hrk, rfl⟩ := pick_str hx
      have hp2 := Fi.kl K2 hpi
      refine ⟨_, rfl, _, rfl, _, rfl, d, c, ns, n2, pl, _, rfl, F2, by omega, hp2, (by rw [List.length_map]; exact hz0), (by rw [List.length_map]; omega), fun x H3 n3 hx hn3 F3 K3 => ?_⟩
      obtain ⟨sz, hsz, rfl⟩ := pick_str hx
      refine ⟨(by show 3 ≤ sizeLine; decide), fun p3 np3 => ?_⟩
      obtain ⟨U4, r4, F4, k4, h4, n4⟩ := nu F3 np3
      rw [r4]
      refine ⟨d, c, ns, n3, p3, _, rfl, F4 _, by omega, h4 _, (by show 0 < 3; decide), (by show 3 < 1000000; decide), fun x H5 n5 hx hn5 F5 K5 => ?_⟩
      obtain ⟨sg, rfl, hsg⟩ := pick_o3 hx (hzw sz hsz)
      refine ⟨_, _, rfl, ?_⟩
      have K25 := K2.trans (K3.trans ((k4 _).trans K5))
      -- thick
      refine ⟨_, rfl, _, rfl, d, c, ns, n5, 9, rfl, F5, by omega, by decide, by decide, fun t1 H6 n6 t10 _ hn6 F6 K6 => ⟨_, _, rfl, rfl, 10, 28, rfl, rfl, ⟨by decide, by decide, by decide⟩, ?_⟩⟩
      refine ⟨_, rfl, 10, 6, rfl, rfl, ⟨by decide, by decide, by decide⟩, d, c, ns, n6, _, rfl, F6, by omega, by decide, by decide, fun t2 H7 n7 t20 _ hn7 F7 K7 => ⟨_, _, rfl, rfl, (by show 4 ≤ sizeLine; decide), fun p7 np7 => ?_⟩⟩
      obtain ⟨U8, r8, F8, k8, h8, _⟩ := nu F7 np7
      rw [r8]
      refine ⟨d, c, ns, n7, p7, _, rfl, F8 _, by omega, h8 _, (by show 0 < 4; decide), (by show 4 < 1000000; decide), fun x H9 n9 hx hn9 F9 K9 => ?_⟩
      have hx' : ∃ th : Int, x = .int th ∧ 1 ≤ th := by
        simp only [List.mem_cons, List.not_mem_nil, or_false] at hx
        rcases hx with rfl | rfl | rfl | rfl
        · exact ⟨1, rfl, by decide⟩
        · exact ⟨2, rfl, by decide⟩
        · exact ⟨1 + t1, rfl, by omega⟩
        · have h28 : (1 : Int) ≤ 10 ^ (28 : Int).toNat := by decide
          exact ⟨10 ^ (28 : Int).toNat + t2, rfl, by omega⟩
      obtain ⟨th, rfl, hth⟩ := hx'
      have Ki9 := K25.trans (K6.trans (K7.trans ((k8 _).trans K9)))
      have hk9 := Ki9 _ _ nkd hk
      have Sy9 := Sy.keep (Y := fun z => Old H z ∨ z = k) fun b o nb e => ⟨Ki9 _ _ (fun z => nb (.inl (z ▸ FD.old))) e, nb⟩
      have KH9 := ki.trans Ki9
      clear Sy K25 K6 K7 k8 K9 F8 F7 F6 F5 F4 F3 F2 K2 K3 k4 K5 r4 r8 h4 h8
      obtain ⟨sh1, sh2⟩ := shaped_beds G.all
      -- if found == [] or ..
      refine ⟨_, rfl, Nat.zero_le _, fun p np => ?_⟩
      obtain ⟨V1, w1, G1, j1, g1, m1⟩ := nu F9 np
      rw [w1]
      have hk8 := j1 (.lst []) _ _ nkd hk9
      have hp8 := g1 (.lst [])
      have Sy8 := Sy9.keep (Y := fun z => Old H z ∨ z = k) fun b o nb e => ⟨j1 (.lst []) _ _ (fun z => nb (.inl (z ▸ FD.old))) e, nb⟩
      have F10 := G1 (.lst [])
      have KH8 := KH9.trans (j1 (.lst []))
      clear Sy9 hk9 KH9 w1 g1
      generalize V1 (.lst []) = H10 at hk8 hp8 Sy8 F10 KH8 ⊢
      have ekd : (PyData.list (bs.map bedD)).hasDict = false := sh2
      have nko : ¬ Old H k := fun z => z nk
      have app : (∀ b, bs.getLast? = some b → ¬ (b.rock = rk ∧ b.mark = none)) → ∀ t, H10 t = none →
          (upd H10 t (.tup [.str rk, .int th, oV sg])) k = some (.lst ys) ∧
          Feed (upd (upd H10 t (.tup [.str rk, .int th, oV sg])) k (.lst (ys ++ [.ref t]))) d c ns n9 ∧
          Keep d H (upd (upd H10 t (.tup [.str rk, .int th, oV sg])) k (.lst (ys ++ [.ref t]))) ∧
          (upd (upd H10 t (.tup [.str rk, .int th, oV sg])) k (.lst (ys ++ [.ref t]))) k = some (.lst (ys ++ [.ref t])) ∧
          (DVs (fun z => Old H z ∨ z = k) (upd (upd H10 t (.tup [.str rk, .int th, oV sg])) k (.lst (ys ++ [.ref t]))) (ys ++ [.ref t]) ((bs ++ [({ rock := rk, th := th, mark := sg } : Bed)]).map bedD) ∧ GoodBs (bs ++ [({ rock := rk, th := th, mark := sg } : Bed)])) := by
        intro hc t nt
        have st := new_same (o := .tup [.str rk, .int th, oV sg]) nt
        have ntk : t ≠ k := fun z => by rw [z, hk8] at nt; cases nt
        have ntd : t ≠ d := F10.nd nt
        have nto : ¬ (Old H t ∨ t = k) := fun z => z.elim (KH8.free ntd nt) ntk
        have ht : (upd H10 t (.tup [.str rk, .int th, oV sg])) t = some (.tup (bedV ⟨rk, th, sg⟩)) := upd_same
        have Ft := F10.same st
        refine ⟨st _ _ hk8, ?_, fun b o nb e => ?_, upd_same, ?_, ⟨fun x hx => ?_, apart_snoc G.apart hc⟩⟩
        · obtain ⟨⟨l, l0, e⟩, hc', hl'⟩ := Ft
          exact ⟨⟨l, l0, by rw [upd_ne nkd.symm]; exact e⟩, by rw [upd_ne nkc.symm]; exact hc', hl'⟩
        · rw [upd_ne (ne_of_none e nk)]
          exact st _ _ (KH8 _ _ nb e)
        · rw [List.map_append]
          exact (DVs.append (Sy8.keep fun z o nz e => ⟨st _ _ e, nz⟩) (.cons (dv_bed nto ht) .nil)).keep fun z o nz e => ⟨by rw [upd_ne fun w => nz (.inr w)]; exact e, nz⟩
        · rcases List.mem_append.mp hx with hx | hx
          · exact G.all x hx
          · cases List.mem_singleton.mp hx
            exact ⟨hzw rk hrk, hth, hsg⟩
      refine ⟨.list (bs.map bedD), .list [], .lst (.inl (.inl hk8)) (DVs.dp Sy8 (by simpa only [PyData.hasDict] using sh2)), .lst (.inl (.inl hp8)) .nil, sh1, rfl, _, rfl, ?_⟩
      cases hx : bs.getLast? with
      | none =>
        have e0 : bs = [] := List.getLast?_eq_none_iff.mp hx
        rw [show PyData.eqv (.list (bs.map bedD)) (.list []) = true by rw [e0]; rfl]
        refine iteT ?_
        refine ⟨_, rfl, .inl ⟨rfl, _, .inl (.inl hk8)⟩, _, rfl, _, rfl, _, rfl, (by show 3 ≤ sizeLine; decide), fun t nt => ?_⟩
        obtain ⟨z1, z2, z3, z4, z5⟩ := app (fun b e => by rw [hx] at e; cases e) t nt
        exact ⟨k, ys, _, rfl, rfl, z1, small1000 (by omega), ⟨n9, ys ++ [.ref t], bs ++ [({ rock := rk, th := th, mark := sg } : Bed)], _, _, _, _, rfl, by omega, z2, z3, z4, by rw [List.length_append]; show bs.length + 1 ≤ i + 1; omega, z5⟩⟩
      | some bl =>
        rw [show PyData.eqv (.list (bs.map bedD)) (.list []) = false by
          cases hbs : bs with
          | nil => rw [hbs] at hx; cases hx
          | cons b r => rfl]
        obtain ⟨ab, hv, nab, hab, hat, SD⟩ := last_bed Sy8 hx
        refine iteF ⟨_, rfl, 1, rfl, k, ys, -1, _, rfl, rfl, .inl (.inl hk8), hat, ab, bedV bl, 0, _, rfl, rfl, .inl (.inl hab), rfl, _, rfl, rfl, _, rfl, ?_⟩
        by_cases h1 : bl.rock = rk
        · rw [show (!decide (V.str bl.rock = V.str rk)) = false by rw [h1, decide_eq_true rfl]; rfl]
          refine iteF ⟨_, rfl, 1, rfl, k, ys, -1, _, rfl, rfl, .inl (.inl hk8), hat, ab, bedV bl, 2, _, rfl, rfl, .inl (.inl hab), rfl, rfl, _, rfl, ?_⟩
          cases h2 : bl.mark with
          | none =>
            refine iteF ⟨n9, ys, bs, _, _, _, _, rfl, by omega, F10, KH8, hk8, by omega, Sy8, G⟩
          | some mz =>
            refine iteT ?_
            refine ⟨_, rfl, .inl ⟨rfl, _, .inl (.inl hk8)⟩, _, rfl, _, rfl, _, rfl, (by show 3 ≤ sizeLine; decide), fun t nt => ?_⟩
            obtain ⟨z1, z2, z3, z4, z5⟩ := app (fun b e => by rw [hx] at e; cases e; rintro ⟨_, e2⟩; rw [h2] at e2; cases e2) t nt
            exact ⟨k, ys, _, rfl, rfl, z1, small1000 (by omega), ⟨n9, ys ++ [.ref t], bs ++ [({ rock := rk, th := th, mark := sg } : Bed)], _, _, _, _, rfl, by omega, z2, z3, z4, by rw [List.length_append]; show bs.length + 1 ≤ i + 1; omega, z5⟩⟩
        · rw [show (!decide (V.str bl.rock = V.str rk)) = true by rw [decide_eq_false fun e => h1 (V.str.inj e)]; rfl]
          refine iteT ?_
          refine ⟨_, rfl, .inl ⟨rfl, _, .inl (.inl hk8)⟩, _, rfl, _, rfl, _, rfl, (by show 3 ≤ sizeLine; decide), fun t nt => ?_⟩
          obtain ⟨z1, z2, z3, z4, z5⟩ := app (fun b e => by rw [hx] at e; cases e; rintro ⟨e2, _⟩; exact h1 e2) t nt
          exact ⟨k, ys, _, rfl, rfl, z1, small1000 (by omega), ⟨n9, ys ++ [.ref t], bs ++ [({ rock := rk, th := th, mark := sg } : Bed)], _, _, _, _, rfl, by omega, z2, z3, z4, by rw [List.length_append]; show bs.length + 1 ≤ i + 1; omega, z5⟩⟩
    · rintro σ Hi ⟨n', ys, bs, y4, y5, y6, y7, rfl, hn', Fi, ki, hk, hbl, Sy, G⟩
      refine ⟨_, rfl, q Hi k ys bs n' hk (Sy.keep fun b o nb e => ⟨e, fun z => nb (.inl z)⟩) G (by omega) (fun z => z nk) (by omega) Fi ki⟩
theorem kp_of {d : Addr} {A B : Hp} (s : Same A B) : Keep d A B := fun b o _ e => s b o e
def spColumn : Sp := fun vs H Q _ => ∃ (d c : Addr) (ns : List Int) (n m : Nat) (pl : Addr) (zs : List Str), vs = [.ref d, .ref pl, .int m] ∧ Feed H d c ns n ∧ n + 10 * m + 40 < 1000000000 ∧ m ≤ 50 ∧ H pl = some (.lst (zs.map V.str)) ∧ 0 < zs.length ∧ zs.length ≤ 50 ∧ (∀ z ∈ zs, wordB z = true) ∧
  ∀ (H' : Hp) (v : V) (co : Col) (n' : Nat), DV (Old H) H' v (colD co) → GoodC co → co.beds.length ≤ m → n' ≤ n + 10 * m + 20 → Feed H' d c ns n' → Keep d H H' → Q v H'
theorem scColumn : FnScope ["_law_feed_here", "_law_pool_here", "_law_most", "_law_base", "_law_seal"] ["_law_feed_here", "_law_pool_here", "_law_most"] (defScope sColumn) := ⟨rfl, rfl, rfl, by decide +kernel, rfl, by decide +kernel, by decide +kernel⟩
set_option maxHeartbeats 1000000 in
theorem ok_column {f fD fP fLV fLA : Addr} {fd fdD fdP fdLV fdLA : FuncData} (F : Fun K "_law_column" "_law_column" sColumn f fd) (T : Txt mg) (D : DefAt K mg "_law_draw" sDraw ["_law_feed_here", "_law_many"] fD fdD) (DP : DefAt K mg "_law_pick" sPick ["_law_feed_here", "_law_options"] fP fdP)
    (DLV : DefAt K mg "_law_level" sLevel ["_law_feed_here"] fLV fdLV) (DLA : DefAt K mg "_law_layers" sLayers ["_law_feed_here", "_law_pool_here", "_law_most"] fLA fdLA) : FnOk P w K mg base CX0 4 f fd ["_law_feed_here", "_law_pool_here", "_law_most"] spColumn := by
  have GPl : FnOk P w K mg base CX0 2 fP fdP ["_law_feed_here", "_law_options"] spPickL := ok_pickL DP.F T D
  have GLV : FnOk P w K mg base CX0 3 fLV fdLV ["_law_feed_here"] spLevel := ok_level DLV.F T D DP
  have GLA : FnOk P w K mg base CX0 3 fLA fdLA ["_law_feed_here", "_law_pool_here", "_law_most"] spLayers := ok_layers DLA.F T D DP
  refine F.ok scColumn (fun vs H Q E h => ?_) (fun cdv A outer s H vs Q E hr h => ?_)
  · obtain ⟨d, c, ns, n, m, pl, zs, rfl, _⟩ := h
    rfl
  · obtain ⟨d, c, ns, n, m, pl, zs, rfl, FD, hn, hm, hpl, hz0, hz1, hzw, q⟩ := h
    have nd := scColumn.nd
    refine ⟨_, (pss_cons (ps_par (i := 3) (j := 4) (by rfl) nd rfl rfl (by decide) rfl rfl (pa_cons (pe_call GPl (hr.mono (by decide)) (by rfl) DP.M DP.F.kp DP.B .nil pass0 (pa_cons (pv 0) (pa_cons (pe_lst (pa_cons pe_non (pa_cons pe_non (pa_cons (pe_call GPl (hr.mono (by decide)) (by rfl) DP.M DP.F.kp DP.B .nil pass0 (pa_cons (pv 0) (pa_cons (pv 1) pa_nil))) pa_nil)))) pa_nil))) (pa_cons (pe_call GPl (hr.mono (by decide)) (by rfl) DP.M DP.F.kp DP.B .nil pass0 (pa_cons (pv 0) (pa_cons (pe_lst (pa_cons pe_non (pa_cons (pe_call GPl (hr.mono (by decide)) (by rfl) DP.M DP.F.kp DP.B .nil pass0 (pa_cons (pv 0) (pa_cons (pv 1) pa_nil))) pa_nil))) pa_nil))) pa_nil)) (by rfl))
    (pss_one (ps_ret (pe_tup (pa_cons (pv 3) (pa_cons (pe_call GLV (hr.mono (by decide)) (by rfl) DLV.M DLV.F.kp DLV.B .nil pass0 (pa_cons (pv 0) pa_nil)) (pa_cons (pv 4) (pa_cons (pe_call GLA (hr.mono (by decide)) (by rfl) DLA.M DLA.F.kp DLA.B .nil pass0 (pa_cons (pv 0) (pa_cons (pv 1) (pa_cons (pv 2) pa_nil)))) pa_nil)))))))), ?_⟩
    have lz0 : 0 < (zs.map V.str).length := by rw [List.length_map]; exact hz0
    have lz1 : (zs.map V.str).length < 1000000 := by rw [List.length_map]; omega
    -- base
    refine ⟨_, rfl, _, rfl, _, rfl, d, c, ns, n, pl, _, rfl, FD, by omega, hpl, lz0, lz1, fun x H1 n1 hx hn1 F1 K1 => ?_⟩
    obtain ⟨s1, hs1, rfl⟩ := pick_str hx
    refine ⟨(by show 3 ≤ sizeLine; decide), fun p1 np1 => ?_⟩
    obtain ⟨U2, r2, F2, k2, h2, _⟩ := nu F1 np1
    rw [r2]
    refine ⟨d, c, ns, n1, p1, _, rfl, F2 _, by omega, h2 _, (by show 0 < 3; decide), (by show 3 < 1000000; decide), fun x H3 n3 hx hn3 F3 K3 => ?_⟩
    obtain ⟨bo, rfl, hbo⟩ := pick_o3 hx (hzw s1 hs1)
    have K03 := K1.trans ((k2 _).trans K3)
    have hpl3 := FD.kl K03 hpl
    -- mark
    refine ⟨_, rfl, _, rfl, _, rfl, d, c, ns, n3, pl, _, rfl, F3, by omega, hpl3, lz0, lz1, fun x H4 n4 hx hn4 F4 K4 => ?_⟩
    obtain ⟨s2, hs2, rfl⟩ := pick_str hx
    refine ⟨(by show 2 ≤ sizeLine; decide), fun p4 np4 => ?_⟩
    obtain ⟨U5, r5, F5, k5, h5, _⟩ := nu F4 np4
    rw [r5]
    refine ⟨d, c, ns, n4, p4, _, rfl, F5 _, by omega, h5 _, (by show 0 < 2; decide), (by show 2 < 1000000; decide), fun x H6 n6 hx hn6 F6 K6 => ?_⟩
    obtain ⟨co, rfl, hco⟩ := pick_o2 hx (hzw s2 hs2)
    have K06 := K03.trans (K4.trans ((k5 _).trans K6))
    refine ⟨_, _, rfl, ?_⟩
    -- the column
    refine ⟨_, rfl, _, rfl, d, c, ns, n6, rfl, F6, by omega, fun lv H7 n7 hn7 F7 K7 => ?_⟩
    have K07 := K06.trans K7
    refine ⟨_, rfl, _, rfl, _, rfl, _, rfl, d, c, ns, n7, m, pl, zs, rfl, F7, by omega, hm, FD.kl K07 hpl, hz0, hz1, hzw, fun H8 l ys bs n8 hl S G hbl nol hn8 F8 K8 => ?_⟩
    refine ⟨(by show 4 ≤ sizeLine; decide), fun p9 np9 => ?_⟩
    have sp := new_same (o := .tup [oV bo, .int lv, oV co, .ref l]) np9
    have o07 : ∀ z, Old H z → Old H7 z := fun z => Old.mono (X := fun _ => True) K07 F7.old
    have K08 := K07.trans K8
    refine q _ _ ⟨bo, lv, co, bs⟩ n8 (dv_col (c := ⟨bo, lv, co, bs⟩) (K08.free (F8.nd np9) np9) upd_same (fun z => nol (o07 l z)) (sp _ _ hl) (S.keep fun b o nb e => ⟨sp _ _ e, fun z => nb (o07 b z)⟩)) ⟨hbo, hco, G⟩ hbl (by omega) (F8.same sp) (K08.trans fun b o _ e => sp b o e)
/-! ### sections -/
abbrev sSInit : Stmt := (inClass (top 39) 1)
abbrev sPCols : Stmt := (inClass (top 39) 4)
/-- Section as the top has made it -/
structure SecF (K : PySem.W.Frag) (mg : Str → Option Value) where
  C : Addr
  cl : Cls K C
  mgC : mg "Section" = some (.ref C)
  nCols : NoAttr K C "_columns"
  mc : Value
  rd : ClX.CRead K C mc
  u12 : Value
  most : ClX.CVal K C mc "MOST_COLUMNS" (.int 12) u12
  fI : Addr
  fdI : FuncData
  FI : Fun K "__init__" "Section.__init__" sSInit fI fdI
  bI : Binds K fdI ["self", "columns"] []
  mkC : Mk K C fI
  p1 : Addr
  q1 : Addr
  d1 : FuncData
  pCols : PropOf K C "columns" p1 q1
  FpCols : Fun K "columns" "Section.columns" sPCols q1 d1
  bCols : Binds K d1 ["self"] []
/-- isinstance(x, Column) -/
structure ColI (K : PySem.W.Frag) (C : Addr) : Prop where
  cl : Cls K C
  ha : PySem.W.findIn K (.ref C) "__class__" = some (some (.builtin "object.__class__"))
  hn : PySem.W.specialIn K (.builtin "object.__class__") "__get__" = some (some (.builtin "getset_descriptor.__get__"))
  ht : PySem.W.takesIn K (.builtin "object.__class__") = some true
  ho : PySem.W.mroIn K C (.type "object") = some true
/-- columns in a row -/
inductive CsAt (C : Addr) (X : Addr → Prop) (H : Hp) : List V → List Col → Prop
  | nil : CsAt C X H [] []
  | cons {p : Addr} {c : Col} {r : List V} {cs : List Col} : ColAt C X H p c → CsAt C X H r cs → CsAt C X H (.ref p :: r) (c :: cs)
theorem CsAt.keep {C : Addr} {X Y : Addr → Prop} {H H' : Hp} (K : ∀ b o, ¬ X b → H b = some o → H' b = some o ∧ ¬ Y b) : ∀ {xs : List V} {cs : List Col}, CsAt C X H xs cs → CsAt C Y H' xs cs
  | _, _, .nil => .nil
  | _, _, .cons h r => .cons (h.keep K) (r.keep K)
theorem CsAt.length {C : Addr} {X : Addr → Prop} {H : Hp} : ∀ {xs : List V} {cs : List Col}, CsAt C X H xs cs → xs.length = cs.length
  | _, _, .nil => rfl
  | _, _, .cons _ r => by rw [List.length_cons, List.length_cons, r.length]
theorem CsAt.get {C : Addr} {X : Addr → Prop} {H : Hp} {x : V} : ∀ {xs : List V} {cs : List Col} {i : Nat}, CsAt C X H xs cs → xs[i]? = some x → ∃ p c, x = .ref p ∧ cs[i]? = some c ∧ ColAt C X H p c
  | _, _, i, .nil, e => by simp at e
  | _, _, 0, .cons h _, e => by
    simp only [List.getElem?_cons_zero, Option.some.injEq] at e
    exact ⟨_, _, e.symm, rfl, h⟩
  | _, _, i + 1, .cons _ r, e => by
    simp only [List.getElem?_cons_succ] at e ⊢
    exact r.get e
theorem CsAt.append {C : Addr} {X : Addr → Prop} {H : Hp} : ∀ {xs ys : List V} {cs ds : List Col}, CsAt C X H xs cs → CsAt C X H ys ds → CsAt C X H (xs ++ ys) (cs ++ ds)
  | _, _, _, _, .nil, s => s
  | _, _, _, _, .cons h r, s => .cons h (r.append s)
theorem CsAt.take {C : Addr} {X : Addr → Prop} {H : Hp} : ∀ {xs : List V} {cs : List Col} (i : Nat), CsAt C X H xs cs → CsAt C X H (xs.take i) (cs.take i)
  | _, _, 0, _ => by rw [List.take_zero, List.take_zero]; exact .nil
  | _, _, _ + 1, .nil => by rw [List.take_nil, List.take_nil]; exact .nil
  | _, _, i + 1, .cons h r => by rw [List.take_succ_cons, List.take_succ_cons]; exact .cons h (r.take i)
theorem CsAt.drop {C : Addr} {X : Addr → Prop} {H : Hp} : ∀ {xs : List V} {cs : List Col} (i : Nat), CsAt C X H xs cs → CsAt C X H (xs.drop i) (cs.drop i)
  | _, _, 0, s => by rw [List.drop_zero, List.drop_zero]; exact s
  | _, _, _ + 1, .nil => by rw [List.drop_nil, List.drop_nil]; exact .nil
  | _, _, i + 1, .cons _ r => by rw [List.drop_succ_cons, List.drop_succ_cons]; exact r.drop i
def sF (t : Addr) : List (Str × V) := [("_columns", .ref t)]
/-- the section at p, its columns xs -/
structure SecAt (S C : Addr) (X : Addr → Prop) (H : Hp) (p : Addr) (xs : List V) (cs : List Col) : Prop where
  ex : ∃ (dx t : Addr), H p = some (.ins S dx (sF t)) ∧ ¬ X t ∧ H t = some (.tup xs)
  np : ¬ X p
  cs : CsAt C X H xs cs
theorem SecAt.keep {S C p : Addr} {X Y : Addr → Prop} {H H' : Hp} {xs : List V} {cs : List Col} (K : ∀ b o, ¬ X b → H b = some o → H' b = some o ∧ ¬ Y b) (A : SecAt S C X H p xs cs) : SecAt S C Y H' p xs cs := by
  obtain ⟨⟨dx, t, h1, h2, h3⟩, h4, h5⟩ := A
  exact ⟨⟨dx, t, (K _ _ h4 h1).1, (K _ _ h2 h3).2, (K _ _ h2 h3).1⟩, (K _ _ h4 h1).2, h5.keep K⟩
/-! ### is_width -/
def spWidth : Sp := fun vs H Q _ => ∃ n : Nat, vs = [.int n] ∧ 1 ≤ n ∧ n ≤ 12 ∧ ∀ H', Same H H' → Q (.bl true) H'
theorem scWidth : FnScope ["value"] ["value"] (defScope sIsWidth) := ⟨rfl, rfl, rfl, by decide +kernel, rfl, by decide +kernel, by decide +kernel⟩
theorem ok_width {f fL : Addr} {fd fdL : FuncData} (F : Fun K "is_width" "is_width" sIsWidth f fd) (T : Txt mg) (Z : SecF K mg) (DL : DefAt K mg "is_level" sIsLevel ["value"] fL fdL) : FnOk P w K mg base CX0 2 f fd ["value"] spWidth := by
  have GL : FnOk P w K mg base CX0 1 fL fdL ["value"] (spTest levelD) := ok_is_level DL.F T
  refine F.ok scWidth (fun vs H Q E h => ?_) (fun cdv A outer s H vs Q E hr h => ?_)
  · obtain ⟨n, rfl, _⟩ := h
    rfl
  · obtain ⟨n, rfl, h1, h2, q⟩ := h
    have nd := scWidth.nd
    refine ⟨_, (pss_one (ps_ret (pe_and (pe_call GL (hr.mono (by decide)) (by rfl) DL.M DL.F.kp DL.B .nil pass0 (pa_cons (pv 0) pa_nil)) (pe_one (pe_chain op_le op_le pe_int (pv 0) (ClX.pe_cval (pe_glob (v := .ref Z.C) rfl Z.mgC rfl))))))), ?_⟩
    refine ⟨_, rfl, _, .int n, fun _ => False, rfl, .int _, trivial, fun H1 s1 => ⟨_, rfl, iteT ?_⟩⟩
    refine ⟨_, rfl, 1, (n : Int), rfl, rfl, _, rfl, ?_⟩
    rw [decide_eq_true (show (1 : Int) ≤ (n : Int) by omega)]
    refine iteT ⟨Z.C, Z.mc, .int 12, Z.u12, rfl, Z.rd, Z.most, (n : Int), 12, rfl, rfl, ?_⟩
    show Q (.bl (decide ((n : Int) ≤ 12))) H1
    rw [decide_eq_true (show (n : Int) ≤ 12 by omega)]
    exact q H1 s1
/-! ### are_columns -/
theorem scAreC : FnScope ["value", "column"] ["value"] (defScope sAreColumns) := ⟨rfl, rfl, rfl, by decide +kernel, rfl, by decide +kernel, by decide +kernel⟩
def spACl (C : Addr) : Sp := fun vs H Q _ => ∃ (a : Addr) (xs : List V) (cs : List Col) (X : Addr → Prop), vs = [.ref a] ∧ H a = some (.lst xs) ∧ CsAt C X H xs cs ∧ 1 ≤ xs.length ∧ xs.length ≤ 12 ∧ ∀ H', Same H H' → Q (.bl true) H'
def spACt (C : Addr) : Sp := fun vs H Q _ => ∃ (a : Addr) (xs : List V) (cs : List Col) (X : Addr → Prop), vs = [.ref a] ∧ H a = some (.tup xs) ∧ CsAt C X H xs cs ∧ 1 ≤ xs.length ∧ xs.length ≤ 12 ∧ ∀ H', Same H H' → Q (.bl true) H'
theorem ok_areCl {f fW fL : Addr} {fd fdW fdL : FuncData} (F : Fun K "are_columns" "are_columns" sAreColumns f fd) (T : Txt mg) (C : ColF K mg) (CI : ColI K C.C) (Z : SecF K mg) (DW : DefAt K mg "is_width" sIsWidth ["value"] fW fdW) (DL : DefAt K mg "is_level" sIsLevel ["value"] fL fdL) : FnOk P w K mg base CX0 3 f fd ["value"] (spACl C.C) := by
  have GW : FnOk P w K mg base CX0 2 fW fdW ["value"] spWidth := ok_width DW.F T Z DL
  refine F.ok scAreC (fun vs H Q E h => ?_) (fun cdv A outer s H vs Q E hr h => ?_)
  · obtain ⟨a, xs, cs, X, rfl, _⟩ := h
    rfl
  · obtain ⟨a, xs, cs, X, rfl, ha, S, h1, h12, q⟩ := h
    have nd := scAreC.nd
    refine ⟨_, (C8.pss_cut (ps_if (PW.pt (pw_or (pt_not (pt_val (pe_callB call_isiT (by rfl) T.isinstance (by decide +kernel) (pa_cons (pv 0) (pa_cons (pe_tup (pa_cons (pe_bltn (v := .ty "list") (by rfl) T.list (by decide +kernel) rfl) (pa_cons (pe_bltn (v := .ty "tuple") (by rfl) T.tuple (by decide +kernel) rfl) pa_nil))) pa_nil))))) (pw_or1 (pt_not (pt_val (pe_call GW (hr.mono (by decide)) (by rfl) DW.M DW.F.kp DW.B .nil pass0 (pa_cons (pe_callB call_len_seq (by rfl) T.len (by decide +kernel) (pa_cons (pv 0) pa_nil)) pa_nil)))))))
      (pss_one (ps_ret pe_bl))
      pss_nil)
    (pss_one (ps_ret (pe_callB (cr_all rfl) (by rfl) T.all (by decide +kernel) (pa_cons (pe_lc (own := [("column", 1)]) (g := gName 1) (by rfl) nd (pi_list (pv 0)) (blkOk_by (own := [("column", 1)]) (N := ["value", "column"]) (sc := defScope sAreColumns) (by decide +kernel)) (fun _ _ _ _ _ => (pg_name (i := 1) nd rfl (Or.inl rfl))) (fun _ _ _ _ _ => pts_nil) (fun _ _ _ _ _ => (pe_callB (show CallR _ (.builtin "isinstance") (rIsi K) from call_isi) (by rfl) T.isinstance (by decide +kernel) (pa_cons (pv 1) (pa_cons (pe_glob (v := .ref C.C) rfl C.mgC rfl) pa_nil))))) pa_nil))))), ?_⟩
    refine ⟨fun σ H1 => Same H H1 ∧ σ = [some (.ref a), none], ?_, ?_⟩
    · refine ⟨_, rfl, (by show 2 ≤ sizeLine; decide), fun p np => ⟨_, p, _, .type "list", [.type "list", .type "tuple"], true, rfl, upd_same, .cons (.ty _) (.cons (.ty _) .nil), .base (.lst (new_same np _ _ ha)), kitAny_cons (b := true) (kit_ty (show kitB "list" "list" = some true by decide +kernel)) (fun h => Bool.noConfusion h) (fun _ => rfl), _, rfl, ?_⟩⟩
      refine iteF ⟨_, rfl, a, xs, rfl, (.inl (.inl (.inl (new_same np _ _ ha)))), xs.length, rfl, h1, h12, fun H1 s1 => ⟨_, rfl, ?_⟩⟩
      exact iteF ⟨fun b o e => s1 _ _ (new_same np _ _ e), rfl⟩
    rintro σ H1 ⟨s1, rfl⟩
    have ha1 := s1 _ _ ha
    have S1 : CsAt C.C X H1 xs cs := S.keep fun b o nb e => ⟨s1 _ _ e, nb⟩
    refine ⟨_, rfl, a, rfl, ⟨_, .inl (.inl ha1)⟩, fun D nD => ?_⟩
    refine lc_list (K := K) (a := a) (xs := xs) (fun i Hi => Hi D = some (.lst ((List.replicate i true).map V.bl)) ∧ ∀ b o, b ≠ D → H1 b = some o → Hi b = some o) ⟨upd_same, fun b o nb e => by rw [upd_ne nb]; exact e⟩ (fun i Hi _ ⟨_, k⟩ => .inl (.inl (k _ _ (ne_of_none ha1 nD) ha1))) ?_ ?_
    · rintro i x Hi hx ⟨hD, k⟩
      obtain ⟨p, c, rfl, hc, CA⟩ := S1.get hx
      obtain ⟨⟨dx, b, zs, hp, _⟩, _⟩ := CA
      have hp' := k _ _ (ne_of_none hp nD) hp
      have hi : i < xs.length := (List.getElem?_eq_some_iff.mp hx).1
      refine ⟨rfl, _, rfl, _, .ref C.C, .ref C.C, .ref C.C, true, rfl, .own _, .base (.ins hp' C.cl CI.ha CI.hn CI.ht CI.ho), (by unfold PySem.W.kitOne; rw [if_pos (beq_self_eq_true _)]), ?_⟩
      refine ⟨_, hD, by rw [List.length_map, List.length_replicate]; exact small1000 (by omega), ?_, fun b o nb e => by rw [upd_ne nb]; exact k b o nb e⟩
      rw [upd_same, List.replicate_succ', List.map_append]
      rfl
    rintro H2 ⟨hD, k2⟩
    have s2 : Same H H2 := fun b o e => k2 b o (ne_of_none (s1 _ _ e) nD) (s1 _ _ e)
    have e1 : (List.replicate xs.length true).all id = true := by
      rw [List.all_eq_true]
      intro x hx
      rw [(List.mem_replicate.mp hx).2]
      rfl
    refine ⟨D, _, rfl, .inl (.inl hD), ?_⟩
    rw [e1]
    exact q H2 s2
theorem ok_areCt {f fW fL : Addr} {fd fdW fdL : FuncData} (F : Fun K "are_columns" "are_columns" sAreColumns f fd) (T : Txt mg) (C : ColF K mg) (CI : ColI K C.C) (Z : SecF K mg) (DW : DefAt K mg "is_width" sIsWidth ["value"] fW fdW) (DL : DefAt K mg "is_level" sIsLevel ["value"] fL fdL) : FnOk P w K mg base CX0 3 f fd ["value"] (spACt C.C) := by
  have GW : FnOk P w K mg base CX0 2 fW fdW ["value"] spWidth := ok_width DW.F T Z DL
  refine F.ok scAreC (fun vs H Q E h => ?_) (fun cdv A outer s H vs Q E hr h => ?_)
  · obtain ⟨a, xs, cs, X, rfl, _⟩ := h
    rfl
  · obtain ⟨a, xs, cs, X, rfl, ha, S, h1, h12, q⟩ := h
    have nd := scAreC.nd
    refine ⟨_, (C8.pss_cut (ps_if (PW.pt (pw_or (pt_not (pt_val (pe_callB call_isiT (by rfl) T.isinstance (by decide +kernel) (pa_cons (pv 0) (pa_cons (pe_tup (pa_cons (pe_bltn (v := .ty "list") (by rfl) T.list (by decide +kernel) rfl) (pa_cons (pe_bltn (v := .ty "tuple") (by rfl) T.tuple (by decide +kernel) rfl) pa_nil))) pa_nil))))) (pw_or1 (pt_not (pt_val (pe_call GW (hr.mono (by decide)) (by rfl) DW.M DW.F.kp DW.B .nil pass0 (pa_cons (pe_callB call_len_seq (by rfl) T.len (by decide +kernel) (pa_cons (pv 0) pa_nil)) pa_nil)))))))
      (pss_one (ps_ret pe_bl))
      pss_nil)
    (pss_one (ps_ret (pe_callB (cr_all rfl) (by rfl) T.all (by decide +kernel) (pa_cons (pe_lc (own := [("column", 1)]) (g := gName 1) (by rfl) nd (pi_tup (pv 0)) (blkOk_by (own := [("column", 1)]) (N := ["value", "column"]) (sc := defScope sAreColumns) (by decide +kernel)) (fun _ _ _ _ _ => (pg_name (i := 1) nd rfl (Or.inl rfl))) (fun _ _ _ _ _ => pts_nil) (fun _ _ _ _ _ => (pe_callB (show CallR _ (.builtin "isinstance") (rIsi K) from call_isi) (by rfl) T.isinstance (by decide +kernel) (pa_cons (pv 1) (pa_cons (pe_glob (v := .ref C.C) rfl C.mgC rfl) pa_nil))))) pa_nil))))), ?_⟩
    refine ⟨fun σ H1 => Same H H1 ∧ σ = [some (.ref a), none], ?_, ?_⟩
    · refine ⟨_, rfl, (by show 2 ≤ sizeLine; decide), fun p np => ⟨_, p, _, .type "tuple", [.type "list", .type "tuple"], true, rfl, upd_same, .cons (.ty _) (.cons (.ty _) .nil), .base (.tup (new_same np _ _ ha)), kit_lt (show kitB "tuple" "list" = some false by decide +kernel) (show kitB "tuple" "tuple" = some true by decide +kernel), _, rfl, ?_⟩⟩
      refine iteF ⟨_, rfl, a, xs, rfl, (.inr (.inl (.inl (new_same np _ _ ha)))), xs.length, rfl, h1, h12, fun H1 s1 => ⟨_, rfl, ?_⟩⟩
      exact iteF ⟨fun b o e => s1 _ _ (new_same np _ _ e), rfl⟩
    rintro σ H1 ⟨s1, rfl⟩
    have ha1 := s1 _ _ ha
    have S1 : CsAt C.C X H1 xs cs := S.keep fun b o nb e => ⟨s1 _ _ e, nb⟩
    refine ⟨_, rfl, a, rfl, ⟨_, .inl (.inl ha1)⟩, fun D nD => ?_⟩
    refine lc_tup (K := K) (a := a) (xs := xs) (fun i Hi => Hi D = some (.lst ((List.replicate i true).map V.bl)) ∧ ∀ b o, b ≠ D → H1 b = some o → Hi b = some o) ⟨upd_same, fun b o nb e => by rw [upd_ne nb]; exact e⟩ (fun i Hi _ ⟨_, k⟩ => .inl (.inl (k _ _ (ne_of_none ha1 nD) ha1))) ?_ ?_
    · rintro i x Hi hx ⟨hD, k⟩
      obtain ⟨p, c, rfl, hc, CA⟩ := S1.get hx
      obtain ⟨⟨dx, b, zs, hp, _⟩, _⟩ := CA
      have hp' := k _ _ (ne_of_none hp nD) hp
      have hi : i < xs.length := (List.getElem?_eq_some_iff.mp hx).1
      refine ⟨rfl, _, rfl, _, .ref C.C, .ref C.C, .ref C.C, true, rfl, .own _, .base (.ins hp' C.cl CI.ha CI.hn CI.ht CI.ho), (by unfold PySem.W.kitOne; rw [if_pos (beq_self_eq_true _)]), ?_⟩
      refine ⟨_, hD, by rw [List.length_map, List.length_replicate]; exact small1000 (by omega), ?_, fun b o nb e => by rw [upd_ne nb]; exact k b o nb e⟩
      rw [upd_same, List.replicate_succ', List.map_append]
      rfl
    rintro H2 ⟨hD, k2⟩
    have s2 : Same H H2 := fun b o e => k2 b o (ne_of_none (s1 _ _ e) nD) (s1 _ _ e)
    have e1 : (List.replicate xs.length true).all id = true := by
      rw [List.all_eq_true]
      intro x hx
      rw [(List.mem_replicate.mp hx).2]
      rfl
    refine ⟨D, _, rfl, .inl (.inl hD), ?_⟩
    rw [e1]
    exact q H2 s2
/-! ### Section.__init__ and columns -/
theorem scSInit : FnScope ["self", "columns"] ["self", "columns"] (defScope sSInit) := ⟨rfl, rfl, rfl, by decide +kernel, rfl, by decide +kernel, by decide +kernel⟩
def spSInitl (S C : Addr) : Sp := fun vs H Q _ => ∃ (p dx a : Addr) (xs : List V) (cs : List Col) (X : Addr → Prop), vs = [.ref p, .ref a] ∧ H p = some (.ins S dx []) ∧ H a = some (.lst xs) ∧ CsAt C X H xs cs ∧ 1 ≤ xs.length ∧ xs.length ≤ 12 ∧
  ∀ (H' : Hp) (t : Addr), H t = none → H' p = some (.ins S dx (sF t)) → H' t = some (.tup xs) → (∀ x o, x ≠ p → H x = some o → H' x = some o) → Q .non H'
def spSInitt (S C : Addr) : Sp := fun vs H Q _ => ∃ (p dx a : Addr) (xs : List V) (cs : List Col) (X : Addr → Prop), vs = [.ref p, .ref a] ∧ H p = some (.ins S dx []) ∧ H a = some (.tup xs) ∧ CsAt C X H xs cs ∧ 1 ≤ xs.length ∧ xs.length ≤ 12 ∧
  ∀ (H' : Hp), H' p = some (.ins S dx (sF a)) → (∀ x o, x ≠ p → H x = some o → H' x = some o) → Q .non H'
/-- what the sections' own defs need -/
structure SDefs (K : PySem.W.Frag) (mg : Str → Option Value) where
  fL : Addr
  fdL : FuncData
  DL : DefAt K mg "is_level" sIsLevel ["value"] fL fdL
  fW : Addr
  fdW : FuncData
  DW : DefAt K mg "is_width" sIsWidth ["value"] fW fdW
  fAC : Addr
  fdAC : FuncData
  DAC : DefAt K mg "are_columns" sAreColumns ["value"] fAC fdAC
theorem ok_sinitl (C : ColF K mg) (CI : ColI K C.C) (Z : SecF K mg) (T : Txt mg) (D : SDefs K mg) : FnOk P w K mg base CX0 4 Z.fI Z.fdI ["self", "columns"] (spSInitl Z.C C.C) := by
  have DAC := D.DAC
  have GACl : FnOk P w K mg base CX0 3 D.fAC D.fdAC ["value"] (spACl C.C) := ok_areCl D.DAC.F T C CI Z D.DW D.DL
  refine Z.FI.ok scSInit (fun vs H Q E h => ?_) (fun cdv A outer s H vs Q E hr h => ?_)
  · obtain ⟨p, dx, a, xs, cs, X, rfl, _⟩ := h
    rfl
  · obtain ⟨p, dx, a, xs, cs, X, rfl, hp, ha, S, h1, h12, q⟩ := h
    have nd := scSInit.nd
    refine ⟨_, (pss_cons (ps_if (pt_not (pt_val (pe_call GACl (hr.mono (by decide)) (by rfl) DAC.M DAC.F.kp DAC.B .nil pass0 (pa_cons (pv 1) pa_nil))))
      (pss_one ps_never)
      pss_nil)
    (pss_one (ps_fld (pv 0) (pe_callTy call_tuple_of (by rfl) T.tuple (by decide +kernel) (pa_cons (pv 1) pa_nil)) rfl))), ?_⟩
    refine ⟨_, rfl, a, xs, cs, X, rfl, ha, S, h1, h12, fun H1 s1 => ⟨_, rfl, iteF ?_⟩⟩
    refine ⟨_, rfl, a, xs, rfl, .inl ⟨.inl (.inl (s1 _ _ ha)), fun l nl => ?_⟩⟩
    have st := new_same (o := .tup xs) nl
    have hl : (upd H1 l (.tup xs)) l = some (.tup xs) := upd_same
    have hp2 := st _ _ (s1 _ _ hp)
    have hHl : H l = none := by
      cases e : H l with
      | none => rfl
      | some o => rw [s1 _ _ e] at nl; cases nl
    generalize upd H1 l (.tup xs) = H2 at st hl hp2 ⊢
    have nlp : l ≠ p := fun z => by rw [z, hp2] at hl; cases hl
    refine ⟨_, rfl, p, Z.C, dx, [], rfl, hp2, Z.cl, Z.nCols, (by show 0 < 1000; decide), ?_⟩
    obtain ⟨U3, r3, h3, o3⟩ := pu H2 p
    rw [r3]
    exact q _ l hHl (h3 _) (Eq.trans (o3 _ l nlp) hl) (fun x o nx e => Eq.trans (o3 _ x nx) (st _ _ (s1 _ _ e)))
theorem ok_sinitt (C : ColF K mg) (CI : ColI K C.C) (Z : SecF K mg) (T : Txt mg) (D : SDefs K mg) : FnOk P w K mg base CX0 4 Z.fI Z.fdI ["self", "columns"] (spSInitt Z.C C.C) := by
  have DAC := D.DAC
  have GACt : FnOk P w K mg base CX0 3 D.fAC D.fdAC ["value"] (spACt C.C) := ok_areCt D.DAC.F T C CI Z D.DW D.DL
  refine Z.FI.ok scSInit (fun vs H Q E h => ?_) (fun cdv A outer s H vs Q E hr h => ?_)
  · obtain ⟨p, dx, a, xs, cs, X, rfl, _⟩ := h
    rfl
  · obtain ⟨p, dx, a, xs, cs, X, rfl, hp, ha, S, h1, h12, q⟩ := h
    have nd := scSInit.nd
    refine ⟨_, (pss_cons (ps_if (pt_not (pt_val (pe_call GACt (hr.mono (by decide)) (by rfl) DAC.M DAC.F.kp DAC.B .nil pass0 (pa_cons (pv 1) pa_nil))))
      (pss_one ps_never)
      pss_nil)
    (pss_one (ps_fld (pv 0) (pe_callTy call_tuple_of (by rfl) T.tuple (by decide +kernel) (pa_cons (pv 1) pa_nil)) rfl))), ?_⟩
    refine ⟨_, rfl, a, xs, cs, X, rfl, ha, S, h1, h12, fun H1 s1 => ⟨_, rfl, iteF ?_⟩⟩
    refine ⟨_, rfl, a, xs, rfl, .inr ⟨.inl (.inl (s1 _ _ ha)), ?_⟩⟩
    refine ⟨_, rfl, p, Z.C, dx, [], rfl, s1 _ _ hp, Z.cl, Z.nCols, (by show 0 < 1000; decide), ?_⟩
    obtain ⟨U3, r3, h3, o3⟩ := pu H1 p
    rw [r3]
    exact q _ (h3 _) (fun x o nx e => Eq.trans (o3 _ x nx) (s1 _ _ e))
theorem smake_goall {S C a : Addr} {H : Hp} {cs : List Col} {xs : List V} {Y : Addr → Prop} {Q : VK} {E : XK} (ha : H a = some (.lst xs)) (SS : CsAt C Y H xs cs) (hY : ∀ z, Y z → Old H z) (h1 : 1 ≤ xs.length) (h12 : xs.length ≤ 12) (q : ∀ H' p, SecAt S C Y H' p xs cs → ¬ Old H p → Same H H' → Q (.ref p) H') :
    ∀ x dx, H x = none → H dx = none → dx ≠ x → spSInitl S C [.ref x, .ref a] (upd (upd H dx (.own x)) x (.ins S dx [])) (fun v H3 => v = .non ∧ Q (.ref x) H3) E := by
  intro x dx nx ndx ne
  have s := make_heap (C := S) nx ndx ne
  have nox : ¬ Old H x := fun z => z nx
  refine ⟨x, dx, a, xs, cs, Y, rfl, upd_same, s _ _ ha, SS.keep fun b o nb e => ⟨s _ _ e, nb⟩, h1, h12, fun H' t ht hp htt k => ⟨rfl, ?_⟩⟩
  have s' : Same H H' := fun z o e => k z o (ne_of_none e nx) (s _ _ e)
  refine q H' x ⟨⟨dx, t, hp, fun z => same_old s (hY t z) ht, htt⟩, fun z => nox (hY x z), SS.keep fun b o nb e => ⟨s' _ _ e, nb⟩⟩ nox s'
theorem smake_goalt {S C a : Addr} {H : Hp} {cs : List Col} {xs : List V} {Y : Addr → Prop} {Q : VK} {E : XK} (ha : H a = some (.tup xs)) (na : ¬ Y a) (SS : CsAt C Y H xs cs) (hY : ∀ z, Y z → Old H z) (h1 : 1 ≤ xs.length) (h12 : xs.length ≤ 12) (q : ∀ H' p, SecAt S C Y H' p xs cs → ¬ Old H p → Same H H' → Q (.ref p) H') :
    ∀ x dx, H x = none → H dx = none → dx ≠ x → spSInitt S C [.ref x, .ref a] (upd (upd H dx (.own x)) x (.ins S dx [])) (fun v H3 => v = .non ∧ Q (.ref x) H3) E := by
  intro x dx nx ndx ne
  have s := make_heap (C := S) nx ndx ne
  have nox : ¬ Old H x := fun z => z nx
  refine ⟨x, dx, a, xs, cs, Y, rfl, upd_same, s _ _ ha, SS.keep fun b o nb e => ⟨s _ _ e, nb⟩, h1, h12, fun H' hp k => ⟨rfl, ?_⟩⟩
  have s' : Same H H' := fun z o e => k z o (ne_of_none e nx) (s _ _ e)
  refine q H' x ⟨⟨dx, a, hp, na, s' _ _ ha⟩, fun z => nox (hY x z), SS.keep fun b o nb e => ⟨s' _ _ e, nb⟩⟩ nox s'
theorem scPCols : FnScope ["self"] ["self"] (defScope sPCols) := ⟨rfl, rfl, rfl, by decide +kernel, rfl, by decide +kernel, by decide +kernel⟩
def spGetCols (S C : Addr) : Sp := fun vs H Q _ => ∃ (p : Addr) (xs : List V) (cs : List Col) (X : Addr → Prop), vs = [.ref p] ∧ SecAt S C X H p xs cs ∧ ∀ t : Addr, ¬ X t → H t = some (.tup xs) → Q (.ref t) H
theorem ok_cols (C : Addr) (Z : SecF K mg) : FnOk P w K mg base CX0 1 Z.q1 Z.d1 ["self"] (spGetCols Z.C C) := by
  refine Z.FpCols.ok scPCols (fun vs H Q E h => ?_) (fun cdv A outer s H vs Q E hr h => ?_)
  · obtain ⟨p, xs, cs, X, rfl, _⟩ := h
    rfl
  · obtain ⟨p, xs, cs, X, rfl, ⟨⟨dx, t, hp, nt, ht⟩, _, _⟩, q⟩ := h
    refine ⟨_, pss_one (ps_ret (pe_fld (pv 0) rfl)), ?_⟩
    exact ⟨_, rfl, p, Z.C, dx, _, _, rfl, hp, Z.cl, Z.nCols, (by show List.lookup ("_columns" : Str) [("_columns", V.ref t)] = some (V.ref t); rw [List.lookup_cons_self]), q t nt ht⟩
/-! ### the law's sections -/
theorem dvs_get {X : Addr → Prop} {H : Hp} {x : V} : ∀ {xs : List V} {cs : List Col} {i : Nat}, DVs X H xs (cs.map colD) → xs[i]? = some x → ∃ c, cs[i]? = some c ∧ DV X H x (colD c)
  | [], cs, i, _, e => by simp at e
  | y :: r, [], i, S, e => by cases S
  | y :: r, c :: cs, 0, .cons h _, e => by
    simp only [List.getElem?_cons_zero, Option.some.injEq] at e
    exact ⟨c, rfl, e ▸ h⟩
  | y :: r, c :: cs, i + 1, .cons _ s, e => by
    simp only [List.getElem?_cons_succ] at e ⊢
    exact dvs_get s e
theorem dvs_len {X : Addr → Prop} {H : Hp} {xs : List V} {cs : List Col} (S : DVs X H xs (cs.map colD)) : xs.length = cs.length := by rw [S.length, List.length_map]
def spSection (S C : Addr) : Sp := fun vs H Q _ => ∃ (a : Addr) (xs : List V) (cs : List Col) (X : Addr → Prop), vs = [.ref a] ∧ H a = some (.lst xs) ∧ DVs X H xs (cs.map colD) ∧ (∀ c ∈ cs, GoodC c ∧ c.beds.length ≤ 900) ∧ 1 ≤ cs.length ∧ cs.length ≤ 12 ∧
  ∀ H' p ys, SecAt S C (Old H) H' p ys cs → Same H H' → Q (.ref p) H'
theorem scSection : FnScope ["_law_state", "_law_one"] ["_law_state"] (defScope sSection) := ⟨rfl, rfl, rfl, by decide +kernel, rfl, by decide +kernel, by decide +kernel⟩
theorem ok_section {f : Addr} {fd : FuncData} (F : Fun K "_law_section" "_law_section" sSection f fd) (T : Txt mg) (C : ColF K mg) (D0 : Defs K mg) (CI : ColI K C.C) (Z : SecF K mg) (D : SDefs K mg) : FnOk P w K mg base CX0 6 f fd ["_law_state"] (spSection Z.C C.C) := by
  have GInitl := initL (P := P) (w := w) (base := base) C T D0
  have GSInitl := ok_sinitl (P := P) (w := w) (base := base) C CI Z T D
  refine F.ok scSection (fun vs H Q E h => ?_) (fun cdv A outer s H vs Q E hr h => ?_)
  · obtain ⟨a, xs, cs, X, rfl, _⟩ := h
    rfl
  · obtain ⟨a, xs, cs, X, rfl, ha, S, G, h1, h12, q⟩ := h
    have nd := scSection.nd
    have hlen := dvs_len S
    refine ⟨_, (pss_one (ps_ret (pe_make Z.mkC GSInitl (hr.mono (by decide)) (by rfl) Z.mgC Z.bI .nil pass0 (pa_cons (pe_lc (own := [("_law_one", 1)]) (g := gName 1) (by rfl) nd (pi_list (pv 0)) (blkOk_by (own := [("_law_one", 1)]) (N := ["_law_state", "_law_one"]) (sc := defScope sSection) (by decide +kernel)) (fun _ _ _ _ _ => (pg_name (i := 1) nd rfl (Or.inl rfl))) (fun _ _ _ _ _ => pts_nil) (fun _ _ _ _ _ => (pe_makeN C.mkC GInitl (hr.mono (by decide)) (by rfl) C.mgC C.kb2rm pass0 (pa_cons (pe_ix (show IxR _ (rIxT K) from ix_tup) (pv 1) pe_int (fun _ _ => rfl)) (pa_cons (pe_ix (show IxR _ (rIxT K) from ix_tup) (pv 1) pe_int (fun _ _ => rfl)) pa_nil)) (pk_cons (pe_ix (show IxR _ (rIxT K) from ix_tup) (pv 1) pe_int (fun _ _ => rfl)) (pk_cons (pe_ix (show IxR _ (rIxT K) from ix_tup) (pv 1) pe_int (fun _ _ => rfl)) pk_nil))))) pa_nil)))), ?_⟩
    refine ⟨_, rfl, a, rfl, ⟨_, .inl (.inl ha)⟩, fun L nL => ?_⟩
    refine lc_list (K := K) (a := a) (xs := xs) (fun i Hi => ∃ acc : List V, Hi L = some (.lst acc) ∧ acc.length = i ∧ CsAt C.C (fun z => Old H z ∨ z = L) Hi acc (cs.take i) ∧ ∀ b o, b ≠ L → H b = some o → Hi b = some o)
      ⟨[], upd_same, rfl, (by rw [List.take_zero]; exact .nil), fun b o nb e => by rw [upd_ne nb]; exact e⟩ (fun i Hi _ ⟨_, _, _, _, k⟩ => .inl (.inl (k _ _ (ne_of_none ha nL) ha))) ?_ ?_
    · rintro i x Hi hx ⟨acc, hL, hl, SA, k⟩
      obtain ⟨c, hc, dv⟩ := dvs_get S hx
      have hi : i < xs.length := (List.getElem?_eq_some_iff.mp hx).1
      obtain ⟨Gc, hb⟩ := G c (List.mem_of_getElem? hc)
      have kk : ∀ b o, ¬ X b → H b = some o → Hi b = some o ∧ ¬ X b := fun b o nb e => ⟨k b o (ne_of_none e nL) e, nb⟩
      obtain ⟨t, l, zs, rfl, nt, ht, nl, hl2, SB⟩ := col_inv (dv.keep kk)
      refine ⟨rfl, _, rfl, t, _, 1, _, rfl, rfl, .inl (.inl ht), rfl, _, rfl, t, _, 3, _, rfl, rfl, .inl (.inl ht), rfl, _, rfl, t, _, 0, _, rfl, rfl, .inl (.inl ht), rfl, _, rfl, t, _, 2, _, rfl, rfl, .inl (.inl ht), rfl, rfl, rfl, ?_⟩
      intro p dx np ndx ne
      have s0 := make_heap (C := C.C) np ndx ne
      refine ⟨p, dx, l, zs, X, c, rfl, upd_same, s0 _ _ hl2, same_dvs s0 SB, Gc, hb, fun H' bb ys hbn hp hbt S' k0 => ⟨rfl, ?_⟩⟩
      have CA := make_end np ndx ne hbn hp hbt S'
      have s' : Same Hi H' := fun z o e => k0 z o (ne_of_none e np) (s0 _ _ e)
      have old : ∀ z, (Old H z ∨ z = L) → Old Hi z := fun z o => by
        rcases o with o | o
        · cases e : H z with
          | none => exact absurd e o
          | some u => exact old_of (k z u (ne_of_none e nL) e)
        · rw [o]; exact old_of hL
      have npL : p ≠ L := fun z => CA.np (z ▸ old_of hL)
      refine ⟨acc, s' _ _ hL, by rw [hl]; exact small1000 (by omega), acc ++ [.ref p], upd_same, by rw [List.length_append, hl]; rfl, ?_, fun b o nb e => by rw [upd_ne nb]; exact s' _ _ (k b o nb e)⟩
      rw [List.take_add_one, hc]
      refine CsAt.append (SA.keep fun b o nb e => ⟨?_, nb⟩) (.cons (CA.keep fun b o nb e => ⟨?_, fun z => nb (old b z)⟩) .nil)
      · rw [upd_ne fun z => nb (.inr z)]
        exact s' _ _ e
      · rw [upd_ne (show b ≠ L from fun z => nb (by rw [z]; exact old_of hL))]
        exact e
    rintro H2 ⟨acc, hL, hl, SA, k2⟩
    rw [hlen, List.take_length] at SA
    have s2 : Same H H2 := fun b o e => k2 b o (ne_of_none e nL) e
    exact smake_goall hL (SA.keep (Y := Old H) fun b o nb e => ⟨e, fun z => nb (.inl z)⟩) (fun z o => same_old s2 o) (by omega) (by omega) fun H' p A _ s' => q H' p acc A (s2.trans s')
def rLof (K : PySem.W.Frag) : List V → Hp → VK → Prop := fun xs H Q => ∃ p ys, xs = [V.ref p] ∧ (SqL K H p ys ∨ SqT K H p ys) ∧ ∀ l, H l = none → Q (.ref l) (upd H l (.lst ys))
theorem call_lof {X : Cx} : CallR X (.type "list") (rLof X.K) := call_list_of
def spShown (S C : Addr) : Sp := fun vs H Q _ => ∃ (p : Addr) (xs : List V) (cs : List Col) (X : Addr → Prop), vs = [.ref p] ∧ SecAt S C X H p xs cs ∧ (∀ c ∈ cs, c.beds.length ≤ 900) ∧ cs.length ≤ 900 ∧
  ∀ H' a ys, H' a = some (.lst ys) → DVs (fun _ => False) H' ys (cs.map colD) → ¬ Old H a → Same H H' → Q (.ref a) H'
theorem scShown : FnScope ["_law_ground", "_law_one"] ["_law_ground"] (defScope sShown) := ⟨rfl, rfl, rfl, by decide +kernel, rfl, by decide +kernel, by decide +kernel⟩
theorem ok_shown {f : Addr} {fd : FuncData} (F : Fun K "_law_shown" "_law_shown" sShown f fd) (T : Txt mg) (C : ColF K mg) (Z : SecF K mg) : FnOk P w K mg base CX0 3 f fd ["_law_ground"] (spShown Z.C C.C) := by
  have GpFoot := ok_foot (P := P) (w := w) (base := base) C
  have GpRoot := ok_root (P := P) (w := w) (base := base) C
  have GpMark := ok_mark (P := P) (w := w) (base := base) C
  have GpBeds := ok_beds (P := P) (w := w) (base := base) C
  have GpCols := ok_cols (P := P) (w := w) (base := base) C.C Z
  refine F.ok scShown (fun vs H Q E h => ?_) (fun cdv A outer s H vs Q E hr h => ?_)
  · obtain ⟨p, xs, cs, X, rfl, _⟩ := h
    rfl
  · obtain ⟨p, xs, cs, X, rfl, SE, hb, hcl, q⟩ := h
    have nd := scShown.nd
    have S := SE.cs
    have hlen := S.length
    refine ⟨_, (pss_one (ps_ret (pe_lc (own := [("_law_one", 1)]) (g := gName 1) (by rfl) nd (pi_tup (pe_prop (pv 0) Z.cl Z.pCols GpCols (hr.mono (by decide)) Z.bCols .nil pass0 rfl)) (blkOk_by (own := [("_law_one", 1)]) (N := ["_law_ground", "_law_one"]) (sc := defScope sShown) (by decide +kernel)) (fun _ _ _ _ _ => (pg_name (i := 1) nd rfl (Or.inl rfl))) (fun _ _ _ _ _ => pts_nil) (fun _ _ _ _ _ => (pe_tup (pa_cons (pe_prop (pv 1) C.cl C.pRoot GpRoot (hr.mono (by decide)) C.bRoot .nil pass0 rfl) (pa_cons (pe_prop (pv 1) C.cl C.pFoot GpFoot (hr.mono (by decide)) C.bFoot .nil pass0 rfl) (pa_cons (pe_prop (pv 1) C.cl C.pMark GpMark (hr.mono (by decide)) C.bMark .nil pass0 rfl) (pa_cons (pe_callTy (show CallR _ (.type "list") (rLof K) from call_lof) (by rfl) T.list (by decide +kernel) (pa_cons (pe_prop (pv 1) C.cl C.pBeds GpBeds (hr.mono (by decide)) C.bBeds .nil pass0 rfl) pa_nil)) pa_nil))))))))), ?_⟩
    obtain ⟨⟨dx, _, hp, _, _⟩, _, _⟩ := id SE
    refine ⟨_, rfl, p, dx, _, rfl, hp, p, xs, cs, X, rfl, SE, fun t nt ht => ⟨t, rfl, ⟨_, .inl (.inl ht)⟩, fun L nL => ?_⟩⟩
    refine lc_tup (K := K) (a := t) (xs := xs) (fun i Hi => ∃ acc : List V, Hi L = some (.lst acc) ∧ acc.length = i ∧ DVs (fun z => z = L) Hi acc ((cs.take i).map colD) ∧ ∀ b o, b ≠ L → H b = some o → Hi b = some o)
      ⟨[], upd_same, rfl, (by rw [List.take_zero]; exact .nil), fun b o nb e => by rw [upd_ne nb]; exact e⟩ (fun i Hi _ ⟨_, _, _, _, k⟩ => .inl (.inl (k _ _ (ne_of_none ht nL) ht))) ?_ ?_
    · rintro i x Hi hx ⟨acc, hL, hl, SA, k⟩
      obtain ⟨pc, c, rfl, hc, CA0⟩ := S.get hx
      have hi : i < xs.length := (List.getElem?_eq_some_iff.mp hx).1
      have CA : ColAt C.C (fun z => X z ∨ z = L) Hi pc c := CA0.keep fun b o nb e => ⟨k b o (ne_of_none e nL) e, fun z => z.elim nb (ne_of_none e nL)⟩
      obtain ⟨⟨dxc, _, _, hpc, _, _, _⟩, _⟩ := id CA
      refine ⟨rfl, _, rfl, pc, dxc, _, rfl, hpc, pc, c, _, rfl, CA, _, rfl, pc, dxc, _, rfl, hpc, pc, c, _, rfl, CA, _, rfl, pc, dxc, _, rfl, hpc, pc, c, _, rfl, CA, _, rfl, pc, dxc, _, rfl, hpc, pc, c, _, rfl, CA, fun b zs nb hb SB => ?_⟩
      refine ⟨b, zs, rfl, .inr (.inl (.inl hb)), fun l nl => ⟨(by show 4 ≤ sizeLine; decide), fun u nu => ?_⟩⟩
      have s1 := new_same (o := .lst zs) nl
      have hl1 : (upd Hi l (.lst zs)) l = some (.lst zs) := upd_same
      have s2 := new_same (o := .tup [oV c.root, .int c.foot, oV c.cap, .ref l]) nu
      have nlL : ¬ l = L := fun z => by rw [z, hL] at nl; cases nl
      have nuL : ¬ u = L := fun z => by rw [z, s1 _ _ hL] at nu; cases nu
      have kk : ∀ z o, z ≠ L → Hi z = some o → (upd (upd (upd Hi l (.lst zs)) u (.tup [oV c.root, .int c.foot, oV c.cap, .ref l])) L (.lst (acc ++ [.ref u]))) z = some o := fun z o nz e => by
        rw [upd_ne nz]
        exact s2 _ _ (s1 _ _ e)
      refine ⟨acc, s2 _ _ (s1 _ _ hL), by rw [hl]; exact small1000 (by omega), acc ++ [.ref u], upd_same, by rw [List.length_append, hl]; rfl, ?_, fun b o nb e => kk b o nb (k b o nb e)⟩
      rw [List.take_add_one, hc, List.map_append]
      refine DVs.append (SA.keep fun b o nb e => ⟨kk b o nb e, nb⟩) (.cons (dv_col (c := c) nuL (by rw [upd_ne nuL]; exact upd_same) nlL (by rw [upd_ne nlL]; exact s2 _ _ hl1) (SB.keep fun b o nb e => ⟨kk b o (fun z => nb (.inr z)) e, fun z => nb (.inr z)⟩)) .nil)
    rintro H2 ⟨acc, hL, hl, SA, k2⟩
    rw [hlen, List.take_length] at SA
    exact q H2 L acc hL (SA.keep fun b o nb e => ⟨e, fun z => z⟩) (fun z => z nL) fun b o e => k2 b o (ne_of_none e nL) e
/-! ### == of columns and of sections -/
abbrev sMEq : Stmt := (inClass (top 23) 6)
abbrev sSEq : Stmt := (inClass (top 39) 8)
/-- == of an own class -/
structure OwnQ (K : PySem.W.Frag) (C : Addr) (qn : Str) (st : Stmt) where
  fq : Addr
  dq : FuncData
  FEq : Fun K "__eq__" qn st fq dq
  bEq : Binds K dq ["self", "other"] []
  hNe : PySem.W.findIn K (.ref C) "__ne__" = some (some (.builtin "object.__ne__"))
  hEq : PySem.W.findIn K (.ref C) "__eq__" = some (some (.ref fq))
  fEq : PySem.W.isFn K (.ref fq) = true
  hObj : PySem.W.mroIn K C (.type "object") = some true
theorem shaped_bedsT {bs : List Bed} (h : ∀ b ∈ bs, GoodB b) : SeqAt.shaped (.tuple (bs.map bedD)) = true ∧ PyData.hasDictAll (bs.map bedD) = false := by
  obtain ⟨h1, h2, h3⟩ := beds_lay h
  refine ⟨?_, h3⟩
  simp only [SeqAt.shaped, PyData.canLay0, PyData.depth, h1, Bool.true_and]
  exact decide_eq_true (by omega)
theorem scal_o (o : Option Str) : scal (oV o) (oV o) = true := by cases o <;> rfl
theorem scMEq : FnScope ["self", "other"] ["self", "other"] (defScope sMEq) := ⟨rfl, rfl, rfl, by decide +kernel, rfl, by decide +kernel, by decide +kernel⟩
theorem scSEq : FnScope ["self", "other"] ["self", "other"] (defScope sSEq) := ⟨rfl, rfl, rfl, by decide +kernel, rfl, by decide +kernel, by decide +kernel⟩
def RC (C : Addr) (p q : Addr) (H : Hp) : Prop := ∃ c : Col, ColAt C (fun _ => False) H p c ∧ ColAt C (fun _ => False) H q c ∧ GoodC c
theorem ext_keep {H H' : Hp} (e : Ext H H') : ∀ b o, ¬ (fun _ : Addr => False) b → H b = some o → H' b = some o ∧ ¬ (fun _ : Addr => False) b := fun b o nb h => ⟨e b o h, nb⟩
theorem RC.mon {C p q : Addr} {H H' : Hp} (e : Ext H H') (r : RC C p q H) : RC C p q H' := by
  obtain ⟨c, a, b, g⟩ := r
  exact ⟨c, a.keep (ext_keep e), b.keep (ext_keep e), g⟩
theorem ok_eqC (C : ColF K mg) (CI : ColI K C.C) (C2 : OwnQ K C.C "Column.__eq__" sMEq) (T : Txt mg) : FnOk P w K mg base CX0 1 C2.fq C2.dq ["self", "other"] (spEq (RC C.C)) := by
  refine C2.FEq.ok scMEq (fun vs H Q E h => ?_) (fun cdv A outer s H vs Q E hr h => ?_)
  · obtain ⟨p, p2, rfl, _⟩ := h
    rfl
  · obtain ⟨p, p2, rfl, ⟨c, CA, CB, G⟩, q⟩ := h
    have nd := scMEq.nd
    obtain ⟨⟨dx, b, xs, hp, nb, hb, S⟩, _⟩ := CA
    obtain ⟨⟨dx2, b2, xs2, hp2, nb2, hb2, S2⟩, _⟩ := CB
    obtain ⟨sh, hd⟩ := shaped_bedsT G.beds.all
    refine ⟨_, (pss_one (ps_ret (pe_and (pe_callB call_isi (by rfl) T.isinstance (by decide +kernel) (pa_cons (pv 1) (pa_cons (pe_glob (v := .ref C.C) rfl C.mgC rfl) pa_nil))) (pe_and (pe_cmpR op_eq (pe_fld (pv 0) rfl) (pe_fld (pv 1) rfl) (nomark _)) (pe_and (pe_cmpR (op_eqD hr.units) (pe_fld (pv 0) rfl) (pe_fld (pv 1) rfl) (nomark _)) (pe_and (pe_cmpR op_eq (pe_fld (pv 0) rfl) (pe_fld (pv 1) rfl) (nomark _)) (pe_one (pe_cmpR op_eq (pe_fld (pv 0) rfl) (pe_fld (pv 1) rfl) (nomark _))))))))), ?_⟩
    refine ⟨_, rfl, _, .ref C.C, .ref C.C, .ref C.C, true, rfl, .own _, .base (.ins hp2 C.cl CI.ha CI.hn CI.ht CI.ho), (by unfold PySem.W.kitOne; rw [if_pos (beq_self_eq_true _)]), _, rfl, iteT ?_⟩
    refine ⟨_, rfl, p, C.C, dx, _, _, rfl, hp, C.cl, C.nFoot, cF_foot _ _ _ _, _, rfl, p2, C.C, dx2, _, _, rfl, hp2, C.cl, C.nFoot, cF_foot _ _ _ _, rfl, _, rfl, ?_⟩
    rw [decide_eq_true rfl]
    refine iteT ⟨_, rfl, p, C.C, dx, _, _, rfl, hp, C.cl, C.nBeds, cF_beds _ _ _ _, _, rfl, p2, C.C, dx2, _, _, rfl, hp2, C.cl, C.nBeds, cF_beds _ _ _ _, .tuple (c.beds.map bedD), .tuple (c.beds.map bedD), .tup (.inl (.inl hb)) (DVs.dp S hd), .tup (.inl (.inl hb2)) (DVs.dp S2 hd), sh, sh, _, rfl, ?_⟩
    rw [show PyData.eqv (.tuple (c.beds.map bedD)) (.tuple (c.beds.map bedD)) = true from SeqAt.eqv_refl _ (SeqAt.canLay_of_shaped sh)]
    refine iteT ⟨_, rfl, p, C.C, dx, _, _, rfl, hp, C.cl, C.nRoot, cF_root _ _ _ _, _, rfl, p2, C.C, dx2, _, _, rfl, hp2, C.cl, C.nRoot, cF_root _ _ _ _, scal_o _, _, rfl, ?_⟩
    rw [decide_eq_true rfl]
    refine iteT ⟨_, rfl, p, C.C, dx, _, _, rfl, hp, C.cl, C.nMark, cF_mark _ _ _ _, _, rfl, p2, C.C, dx2, _, _, rfl, hp2, C.cl, C.nMark, cF_mark _ _ _ _, scal_o _, ?_⟩
    rw [decide_eq_true rfl]
    exact q H Ext.rfl'
def RS (S C : Addr) (p q : Addr) (H : Hp) : Prop := ∃ (cs : List Col) (xs ys : List V), SecAt S C (fun _ => False) H p xs cs ∧ SecAt S C (fun _ => False) H q ys cs ∧ ∀ c ∈ cs, GoodC c
theorem ins_RC {C : Addr} {H : Hp} {p q : Addr} {c : Col} (A : ColAt C (fun _ => False) H p c) (B : ColAt C (fun _ => False) H q c) (G : GoodC c) : DIns C (RC C) (.ref p) (.ref q) H := by
  obtain ⟨⟨dx, _, _, hp, _⟩, _⟩ := id A
  obtain ⟨⟨dx2, _, _, hp2, _⟩, _⟩ := id B
  exact ⟨p, q, dx, dx2, _, _, rfl, rfl, hp, hp2, c, A, B, G⟩
theorem prs_RC {C : Addr} {H : Hp} : ∀ {xs ys : List V} {cs : List Col}, CsAt C (fun _ => False) H xs cs → CsAt C (fun _ => False) H ys cs → (∀ c ∈ cs, GoodC c) → Prs (DIns C (RC C)) xs ys H
  | _, _, _, .nil, .nil, _ => Prs.nil
  | _, _, _, .cons a r, .cons b s, g => Prs.cons (ins_RC a b (g _ (List.mem_cons_self ..))) (prs_RC r s fun c h => g c (List.mem_cons_of_mem _ h))
theorem ok_eqS (C : ColF K mg) (CI : ColI K C.C) (C2 : OwnQ K C.C "Column.__eq__" sMEq) (Z : SecF K mg) (ZI : ColI K Z.C) (C3 : OwnQ K Z.C "Section.__eq__" sSEq) (T : Txt mg) : FnOk P w K mg base CX0 4 C3.fq C3.dq ["self", "other"] (spEq (RS Z.C C.C)) := by
  have GEqC := ok_eqC (P := P) (w := w) (base := base) C CI C2 T
  have mC : Mon (DIns C.C (RC C.C)) := mon_ins fun _ _ _ _ e r => r.mon e
  refine C3.FEq.ok scSEq (fun vs H Q E h => ?_) (fun cdv A outer s H vs Q E hr h => ?_)
  · obtain ⟨p, p2, rfl, _⟩ := h
    rfl
  · obtain ⟨p, p2, rfl, ⟨cs, xs, ys, SA, SB, G⟩, q⟩ := h
    have nd := scSEq.nd
    obtain ⟨⟨dx, t, hp, _, ht⟩, _, CA⟩ := id SA
    obtain ⟨⟨dx2, t2, hp2, _, ht2⟩, _, CB⟩ := id SB
    refine ⟨_, (pss_one (ps_ret (pe_and (pe_callB call_isi (by rfl) T.isinstance (by decide +kernel) (pa_cons (pv 1) (pa_cons (pe_glob (v := .ref Z.C) rfl Z.mgC rfl) pa_nil))) (pe_one (pe_cmpR (op_eqG (rcG_tup mC (eqG_ins GEqC C2.hEq C2.fEq C2.bEq pass0)) (hr.mono (by decide))) (pe_fld (pv 0) rfl) (pe_fld (pv 1) rfl) (nomark _)))))), ?_⟩
    refine ⟨_, rfl, _, .ref Z.C, .ref Z.C, .ref Z.C, true, rfl, .own _, .base (.ins hp2 Z.cl ZI.ha ZI.hn ZI.ht ZI.ho), (by unfold PySem.W.kitOne; rw [if_pos (beq_self_eq_true _)]), _, rfl, iteT ?_⟩
    have lk : ∀ t, List.lookup ("_columns" : Str) (sF t) = some (V.ref t) := fun t => by unfold sF; rw [List.lookup_cons_self]
    refine ⟨_, rfl, p, Z.C, dx, _, _, rfl, hp, Z.cl, Z.nCols, lk t, _, rfl, p2, Z.C, dx2, _, _, rfl, hp2, Z.cl, Z.nCols, lk t2, ⟨t, t2, xs, ys, rfl, rfl, .inl (.inl ht), .inl (.inl ht2), prs_RC CA CB G⟩, q⟩
/-! ### part -/
abbrev sSPart : Stmt := (inClass (top 39) 14)
abbrev sSAdd : Stmt := (inClass (top 39) 13)
theorem scIndex : FnScope ["value", "count"] ["value", "count"] (defScope sIsIndex) := ⟨rfl, rfl, rfl, by decide +kernel, rfl, by decide +kernel, by decide +kernel⟩
def spIndex : Sp := fun vs H Q _ => ∃ i n : Nat, vs = [.int i, .int n] ∧ i < n ∧ ∀ H', Same H H' → Q (.bl true) H'
theorem ok_index {f fL : Addr} {fd fdL : FuncData} (F : Fun K "is_index" "is_index" sIsIndex f fd) (T : Txt mg) (DL : DefAt K mg "is_level" sIsLevel ["value"] fL fdL) : FnOk P w K mg base CX0 2 f fd ["value", "count"] spIndex := by
  have GL : FnOk P w K mg base CX0 1 fL fdL ["value"] (spTest levelD) := ok_is_level DL.F T
  refine F.ok scIndex (fun vs H Q E h => ?_) (fun cdv A outer s H vs Q E hr h => ?_)
  · obtain ⟨i, n, rfl, _⟩ := h
    rfl
  · obtain ⟨i, n, rfl, h1, q⟩ := h
    have nd := scIndex.nd
    refine ⟨_, (pss_one (ps_ret (pe_and (pe_call GL (hr.mono (by decide)) (by rfl) DL.M DL.F.kp DL.B .nil pass0 (pa_cons (pv 0) pa_nil)) (pe_one (pe_chain op_le op_lt pe_int (pv 0) (pv 1)))))), ?_⟩
    refine ⟨_, rfl, _, .int i, fun _ => False, rfl, .int _, trivial, fun H1 s1 => ⟨_, rfl, iteT ?_⟩⟩
    refine ⟨_, rfl, 0, (i : Int), rfl, rfl, _, rfl, ?_⟩
    rw [decide_eq_true (show (0 : Int) ≤ (i : Int) by omega)]
    refine iteT ⟨_, rfl, (i : Int), (n : Int), rfl, rfl, ?_⟩
    show Q (.bl (decide ((i : Int) < (n : Int)))) H1
    rw [decide_eq_true (show (i : Int) < (n : Int) by omega)]
    exact q H1 s1
structure SecP (K : PySem.W.Frag) (S : Addr) where
  f1 : Addr
  e1 : FuncData
  mPart : Meth K S "part" f1
  FPart : Fun K "part" "Section.part" sSPart f1 e1
  bPart : Binds K e1 ["self", "first", "last"] []
theorem scPart : FnScope ["self", "first", "last", "at"] ["self", "first", "last"] (defScope sSPart) := ⟨rfl, rfl, rfl, by decide +kernel, rfl, by decide +kernel, by decide +kernel⟩
def spPart (S C : Addr) : Sp := fun vs H Q _ => ∃ (p : Addr) (i j : Nat) (xs : List V) (cs : List Col) (Y : Addr → Prop), vs = [.ref p, .int i, .int j] ∧ SecAt S C Y H p xs cs ∧ (∀ z, Y z → Old H z) ∧ i ≤ j ∧ j < cs.length ∧ cs.length ≤ 12 ∧
  ∀ H' p', SecAt S C Y H' p' ((xs.drop i).take (j + 1 - i)) ((cs.drop i).take (j + 1 - i)) → Same H H' → Q (.ref p') H'
theorem ok_part {fIX : Addr} {fdIX : FuncData} (C : ColF K mg) (CI : ColI K C.C) (Z : SecF K mg) (Z2 : SecP K Z.C) (T : Txt mg) (D : SDefs K mg) (DIX : DefAt K mg "is_index" sIsIndex ["value", "count"] fIX fdIX) : FnOk P w K mg base CX0 6 Z2.f1 Z2.e1 ["self", "first", "last"] (spPart Z.C C.C) := by
  have GIX : FnOk P w K mg base CX0 2 fIX fdIX ["value", "count"] spIndex := ok_index DIX.F T D.DL
  have GSInitt := ok_sinitt (P := P) (w := w) (base := base) C CI Z T D
  refine Z2.FPart.ok scPart (fun vs H Q E h => ?_) (fun cdv A outer s H vs Q E hr h => ?_)
  · obtain ⟨p, i, j, xs, cs, Y, rfl, _⟩ := h
    rfl
  · obtain ⟨p, i, j, xs, cs, Y, rfl, SE, hY, hij, hj, h12, q⟩ := h
    have nd := scPart.nd
    obtain ⟨⟨dx, t, hp, nt, ht⟩, _, S⟩ := id SE
    have hlen := S.length
    have lk : ∀ t, List.lookup ("_columns" : Str) (sF t) = some (V.ref t) := fun t => by unfold sF; rw [List.lookup_cons_self]
    refine ⟨_, (pss_cons (ps_for PassesOwn.never rfl (pi_tup (pe_tup (pa_cons (pv 1) (pa_cons (pv 2) pa_nil)))) (pg_name (i := 3) nd rfl (.inl rfl))
      (pss_one (ps_if (pt_not (pt_val (pe_call GIX (hr.mono (by decide)) (by rfl) DIX.M DIX.F.kp DIX.B .nil pass0 (pa_cons (pv 3) (pa_cons (pe_callB call_len_seq (by rfl) T.len (by decide +kernel) (pa_cons (pe_fld (pv 0) rfl) pa_nil)) pa_nil)))))
      (pss_one ps_never)
      pss_nil)))
    (pss_cons (ps_if (pt_cmpR op_lt (pv 2) (pv 1) (nomark _))
      (pss_one ps_never)
      pss_nil)
    (pss_one (ps_ret (pe_make Z.mkC GSInitt (hr.mono (by decide)) (by rfl) Z.mgC Z.bI .nil pass0 (pa_cons (pe_slice sl_tupA (pe_fld (pv 0) rfl) (po_some (pv 1)) (po_some (pe_op op_add (pv 2) pe_int))) pa_nil)))))), ?_⟩
    refine ⟨_, rfl, _, rfl, (by show 2 ≤ sizeLine; decide), fun tp ntp => ?_⟩
    refine ⟨tp, rfl, ⟨_, .inl (.inl upd_same)⟩, ?_⟩
    have s0 := new_same (o := .tup [.int i, .int j]) ntp
    have htp : (upd H tp (.tup [.int i, .int j])) tp = some (.tup [.int i, .int j]) := upd_same
    generalize upd H tp (.tup [.int i, .int j]) = H0 at s0 htp ⊢
    refine for_tup (K := K) (a := tp) (xs := [.int i, .int j]) (fun k σ Hi => ∃ y : Option V, σ = [some (.ref p), some (.int i), some (.int j), y] ∧ Same H Hi ∧ Hi tp = some (.tup [.int i, .int j])) ⟨none, rfl, s0, htp⟩ (fun k σ Hi _ ⟨_, _, _, h⟩ => .inl (.inl h)) ?_ ?_
    · rintro k x σ Hi hx ⟨y, rfl, si, hti⟩
      have hx' : ∃ m : Nat, x = .int m ∧ m < xs.length := by
        have hm := List.mem_of_getElem? hx
        simp only [List.mem_cons, List.not_mem_nil, or_false] at hm
        rcases hm with rfl | rfl
        · exact ⟨i, rfl, by omega⟩
        · exact ⟨j, rfl, by omega⟩
      obtain ⟨m, rfl, hm⟩ := hx'
      refine ⟨_, rfl, _, rfl, p, Z.C, dx, _, _, rfl, si _ _ hp, Z.cl, Z.nCols, lk t, t, xs, rfl, .inr (.inl (.inl (si _ _ ht))), m, xs.length, rfl, hm, fun H1 s1 => ⟨_, rfl, iteF ?_⟩⟩
      exact ⟨some (.int m), rfl, si.trans s1, s1 _ _ hti⟩
    · rintro σ Hi ⟨y, rfl, si, hti⟩
      refine ⟨_, rfl, _, rfl, _, _, rfl, rfl, _, rfl, ?_⟩
      rw [decide_eq_false (show ¬ (j : Int) < (i : Int) by omega)]
      have ht' := si _ _ ht
      have S' : CsAt C.C Y Hi xs cs := S.keep fun b o nb e => ⟨si _ _ e, nb⟩
      have hY' : ∀ z, Y z → Old Hi z := fun z o => same_old si (hY z o)
      have e1 : HT.sIx xs.length 0 (some (i : Int)) = i := by rw [HT.sIx_nat]; omega
      have e2 : HT.sIx xs.length xs.length (some ((j : Int) + 1)) = j + 1 := by rw [show (j : Int) + 1 = ((j + 1 : Nat) : Int) from rfl, HT.sIx_nat]; omega
      have ec : cutV xs (some (i : Int)) (some ((j : Int) + 1)) = (xs.drop i).take (j + 1 - i) := by unfold cutV; rw [e1, e2]
      have hl : ((xs.drop i).take (j + 1 - i)).length = j + 1 - i := by rw [List.length_take, List.length_drop]; omega
      have SC := (S'.drop i).take (j + 1 - i)
      refine iteF ⟨_, rfl, p, Z.C, dx, _, _, rfl, si _ _ hp, Z.cl, Z.nCols, lk t, _, rfl, (i : Int), rfl, _, rfl, _, _, rfl, rfl, (j : Int) + 1, rfl, t, xs, rfl, .inl (.inl ht'), fun hw => ?_, fun _ l nl => ?_⟩
      · rw [e1, e2] at hw
        have ex : (xs.drop i).take (j + 1 - i) = xs := by rw [hw.1, List.drop_zero]; exact List.take_of_length_le (by omega)
        rw [ex] at SC hl
        rw [ex] at q
        exact smake_goalt (cs := (cs.drop i).take (j + 1 - i)) ht' nt SC hY' (by omega) (by omega) fun H' p' A _ s' => q H' p' A (si.trans s')
      · have st := new_same (o := .tup (cutV xs (some (i : Int)) (some ((j : Int) + 1)))) nl
        have hlt : (upd Hi l (.tup (cutV xs (some (i : Int)) (some ((j : Int) + 1))))) l = some (.tup ((xs.drop i).take (j + 1 - i))) := by rw [upd_same, ec]
        exact smake_goalt (cs := (cs.drop i).take (j + 1 - i)) hlt (fun z => hY' l z nl) (SC.keep fun b o nb e => ⟨st _ _ e, nb⟩) (fun z o => same_old st (hY' z o)) (by omega) (by omega) fun H' p' A _ s' => q H' p' A (si.trans (st.trans s'))
/-! ### x + y by an own __add__ -/
section
variable {X : Cx} {CX : CXT} {n : Nat} {C f : Addr} {fd : FuncData} {ps : List Str} {sp : Sp} {E : XK}
open PySem PySem.Spec PyProof.Rows in
theorem op_addOwn (F : FnOk X.prog X.w X.K X.mg X.base CX n f fd ps sp) (hr : Room n X.A) (hc : PySem.W.selfFirst X.K C = true) (hs : PySem.W.findIn X.K (.ref C) "__add__" = some (some (.ref f))) (hf : PySem.W.isFn X.K (.ref f) = true) (hb : Binds X.K fd ps []) (hx : Passes CX X E) :
    OpR X (binaryOp .Add) (fun x y H Q => ∃ a b dx dy fs gs, x = V.ref a ∧ y = V.ref b ∧ H a = some (.ins C dx fs) ∧ H b = some (.ins C dy gs) ∧ sp [.ref a, .ref b] H (fun v H' => (∃ p, v = V.ref p) ∧ Q v H') E) := by
  intro pins s σ H x y v u Q I rx ry h
  obtain ⟨a, b, dx, dy, fs, gs, rfl, rfl, ha, hb', q⟩ := h
  cases rx
  cases ry
  obtain ⟨mA, J, _⟩ := ins_get I.hok ha
  obtain ⟨mB, J', _⟩ := ins_get I.hok hb'
  obtain ⟨od, J, _⟩ := J.look
  obtain ⟨od', J', _⟩ := J'.look
  obtain ⟨m, hF⟩ := I.fr
  have hl := F.len _ _ _ _ q
  refine PySem.W.binop_K (op := .Add) hF I.ok.mod.kin J J'.type hc hs hf ?_
  refine wpAny_call (codeAny_mono (F.run X.A X.stack s H ⟨[.ref a, .ref b], []⟩ [.ref a, .ref b] [.ref a, .ref b] _ E hr I.env0 (by
    have := hb s [.ref a, .ref b] I.kIn (by simpa using hl)
    simpa using this) (.cons rfl (.cons rfl .nil)) q) fun r s' hq => ?_)
  cases r with
  | error e => exact hx pins σ H s e s' I hq
  | ok fl =>
    cases fl with
    | ret z =>
      obtain ⟨v, H', I', rz, ⟨p, ev⟩, q'⟩ := I.after hq
      subst ev
      cases (show z = Value.ref p from rz)
      exact ⟨.ref p, H', I', rfl, q'⟩
    | next => exact False.elim hq
    | brk => exact False.elim hq
    | cont => exact False.elim hq
end
/-- a + b in a try's body: what the own __add__ raises goes to the state's wish -/
def tAddS (C : Addr) (sp : Sp) (E : St → XK) (ta tb : TE) : TE := fun σ H Q => ta σ H fun x H1 => tb σ H1 fun y H2 => ∃ a b dx dy fs gs, x = V.ref a ∧ y = V.ref b ∧ H2 a = some (.ins C dx fs) ∧ H2 b = some (.ins C dy gs) ∧ sp [.ref a, .ref b] H2 (fun v H' => (∃ p, v = V.ref p) ∧ Q v H') (E σ)
section
open PySem PySem.Spec PyProof.Rows
variable {X : Cx} {CX : CXT} {n : Nat} {C f : Addr} {fd : FuncData} {ps : List Str} {sp : Sp} {E : L2.St → XK} {ea eb : Expr} {ta tb : TE} {pos : Pos}
theorem pe_addS (F : FnOk X.prog X.w X.K X.mg X.base CX n f fd ps sp) (hr : Room n X.A) (hc : PySem.W.selfFirst X.K C = true) (hs : PySem.W.findIn X.K (.ref C) "__add__" = some (some (.ref f))) (hf : PySem.W.isFn X.K (.ref f) = true) (hb : Binds X.K fd ps []) (hx : ∀ σ, PassesAt CX X σ (E σ))
    (pa : PE X ea ta) (pb : PE X eb tb) : PE X (.BinOp ea .Add eb pos) (tAddS C sp E ta tb) := by
  refine ⟨fun pins s0 σ H0 Q I0 h0 => ?_⟩
  refine wpAny_BinOp (binT pa pb I0 h0 fun v u s x y H I rx ry h => ?_)
  obtain ⟨a, b, dx, dy, fs, gs, rfl, rfl, ha, hb', q⟩ := h
  cases rx
  cases ry
  obtain ⟨mA, J, _⟩ := ins_get I.hok ha
  obtain ⟨mB, J', _⟩ := ins_get I.hok hb'
  obtain ⟨od, J, _⟩ := J.look
  obtain ⟨od', J', _⟩ := J'.look
  obtain ⟨m, hF⟩ := I.fr
  have hl := F.len _ _ _ _ q
  refine PySem.W.binop_K (op := .Add) hF I.ok.mod.kin J J'.type hc hs hf ?_
  refine wpAny_call (codeAny_mono (F.run X.A X.stack s H ⟨[.ref a, .ref b], []⟩ [.ref a, .ref b] [.ref a, .ref b] _ (E σ) hr I.env0 (by
    have := hb s [.ref a, .ref b] I.kIn (by simpa using hl)
    simpa using this) (.cons rfl (.cons rfl .nil)) q) fun r s' hq => ?_)
  cases r with
  | error e => exact hx σ pins H s e s' I hq
  | ok fl =>
    cases fl with
    | ret z =>
      obtain ⟨v, H', I', rz, ⟨p, ev⟩, q'⟩ := I.after hq
      subst ev
      cases (show z = Value.ref p from rz)
      exact ⟨.ref p, H', I', rfl, q'⟩
    | next => exact False.elim hq
    | brk => exact False.elim hq
    | cont => exact False.elim hq
end
/-! ### an own error over any built-in base, with its own __init__ -/
/-- the class at C stands right over the built-in class B -/
structure OexB (K : PySem.W.Frag) (C : Addr) (B n i : String) (bm : List Value) : Prop where
  base : ExcBaseFacts B n i bm
  cls : ∃ nm q N bs sn sub ab col dd k0 k1 k2 k3 k5, K.lookup C = some (excClassObj nm q C N bs bm true sn sub ab col dd k0 k1 k2 k3 k5 n)
  pass : ∀ self, PySem.refuseLoop self "__setattr__" bm = pure ()
  obj : bm.contains (.type "object") = true
  sa : PySem.W.findIn K (.ref C) "__setattr__" = some (some (.builtin "object.__setattr__"))
  exC : PySem.W.subIn K (.ref C) (.type "BaseException") = some true
  tyC : PySem.W.typeIn K (.ref C) = some (.type "type")
  kC : PySem.W.keepIn K (.ref C) = true
section
open PySem PySem.Spec PyProof.Rows PySem.W PySem.Calls PySem.HandSPX Builtin Builtin.ObjectAttr
variable {prog : Program} {w : World} {A : Around} {R : Result → Shared → Prop} {hp : Heap} {g : Array GenState} {d : Drawn} {t : Nat} {os : OsState}
theorem first_store {KK : W.Frag} {name : Str} {tk : Tok} {v : Value} {x C : Addr} {fv : Array Value} {cd : ClassData} {bm : List Value}
    (X : KK.In hp) (hx : hp.get? x = some { cls := .ref C, data := .fields fv }) (hcd : W.clsIn KK C = some cd) (hm : cd.mro = .ref C :: bm) (hps : ∀ self, refuseLoop self "__setattr__" bm = pure ()) (hob : bm.contains (.type "object") = true)
    (hh : cd.hasDict = true) (ha : W.findIn KK (.ref C) name = some none)
    (hq : ∀ h' tk' dx, (∀ b o, b ≠ x → hp.get? b = some o → h'.get? b = some o) → hp.objs.size ≤ dx → dx ≠ x → h'.get? x = some { cls := .ref C, dict := some dx, data := .fields fv } →
      h'.Ns1 dx (fun y => if y = name then some v else none) → R (.ok (.ret .none)) ⟨h', g, d, tk', os⟩) :
    codeAny (model prog w) A (.call (.builtin "object.__setattr__") ⟨[.ref x, .str name tk, v], []⟩) R ⟨hp, g, d, t, os⟩ := by
  have J : W.InstAt hp x { cls := .ref C, data := .fields fv } C none := ⟨hx, rfl, rfl, trivial⟩
  have nx : hp.objs.size ≠ x := fun z => Nat.lt_irrefl _ (z ▸ Heap.lt_size hx)
  have inObj : W.mroIn KK C (.type "object") = some true := by
    unfold W.mroIn
    rw [hcd, Option.bind_some, hm, if_neg (by simp), List.contains_cons, hob, Bool.or_true]
  have isObj : W.Looks (model prog w) hp (isInstance (.ref x) (.type "object")) true := J.type.andThen (W.looks_mroIn X inObj)
  have SF := F.store_object
  refine codeAny_call_builtin SF.slot.plain SF.entry (@W.check_slot (model prog w) _ _ ⟨hp, g, d, t, os⟩ "object.__setattr__" "object" "__setattr__" (.ref x) [.str name tk, v] [] _ SF.kind SF.split isObj (SF.args (.ref x) (.str name tk) v) ?_)
  have theMro : W.Looks (model prog w) hp (mroOf (.ref C)) cd.mro := (W.looks_clsIn X hcd).andThen .now
  have noTaker : W.Looks (model prog w) hp (storeTaker? none) none := .now
  have theCls : W.Looks (model prog w) hp (classData C) cd := W.looks_clsIn X hcd
  have goes : ∀ self, refuseLoop self "__setattr__" cd.mro = pure () := fun self => by rw [hm, refuseLoop_ref]; exact hps self
  rw [W.osa_eq, refuse_eq]
  refine wpAny_bind (wpAny_bind (J.type.at (wpAny_bind (theMro.at ?_))))
  rw [goes]
  refine wpAny_pure (wpAny_bind (J.type.at (wpAny_bind ((W.looks_findIn X ha).at (wpAny_bind (noTaker.at ?_))))))
  show wpAny _ _ (storeInOwnDict (.ref x) (.ref C) (.str name tk) name v false) _ _ _
  obtain ⟨nm, bs, mro, ns, qn, hd, sn, sb, ab, col, del⟩ := cd
  dsimp only at hh
  subst hh
  unfold storeInOwnDict ownDictForStores
  repeat (first | with_reducible refine store_in_new ?_ ?_ | with_reducible refine wpAny_loadPart_at hx ?_ | with_reducible refine theCls.at ?_ | wp_step)
  · exact ⟨_, #[], _, (Heap.get?_update_ne _ _ _ _ nx).trans (Heap.get?_push_at rfl rfl), rfl, fun e he => absurd he (by simp), fun _ => rfl⟩
  · intro h' tk' hn' hs
    have hx1 : (hp.push { cls := .type "dict", data := .dict #[] }).get? x = some { cls := .ref C, data := .fields fv } := Heap.get?_push_of_some _ hx
    exact hq h' tk' hp.objs.size (fun b o hb ho => (hs.2 b (Nat.ne_of_lt (Heap.lt_size ho))).trans ((Heap.get?_update_ne _ _ _ _ hb).trans (Heap.get?_push_of_some _ ho))) (Nat.le_refl _) nx ((hs.2 x nx.symm).trans (Heap.get?_update_self _ hx1 rfl)) hn'
end
section
open PySem PySem.Spec PyProof.Rows
variable {X : Cx} {pins : List (Addr × Obj)} {σ : L2.St} {H : Hp} {s : Shared} {a C : Addr} {f : Str} {y : V} {u : Value} {B n i : String} {bm : List Value}
theorem first_field {Q : Unit → Shared → Prop} {E : Value → Shared → Prop} {A : Around} (T : OexB X.K C B n i bm) (I : Inv X pins σ H s) (e : H a = some (exo a C none)) (hno : PySem.W.findIn X.K (.ref C) f = some none) (ry : RelV y u)
    (h : ∀ dx s', H dx = none → dx ≠ a → Inv X pins σ (upd (upd H dx (exd dx [(f, y)])) a (exo a C (some dx))) s' → Q () s') : wpAny (model X.prog X.w) A (setAttr (.ref a) f u) Q E s := by
  obtain ⟨nm, q, N, bs, sn, sub, ab, col, dd, k0, k1, k2, k3, k5, hC⟩ := T.cls
  have hcl : PySem.W.clsIn X.K C = some { name := nm, bases := bs, mro := .ref C :: bm, ns := N, qualname := q, hasDict := true, slotNames := sn, subclasses := sub, abstract := ab, collection := col, hasDel := false } := by
    unfold PySem.W.clsIn
    rw [hC]
  obtain ⟨t1, ho⟩ := exo_at I.hok e
  obtain ⟨hp, g, d, t, os⟩ := s
  refine PySem.W.set_plain I.kIn (ox := { cls := .ref C, dict := none, data := .fields #[.ref t1, .none, .none, .none, .bool false, .none] }) (od := none) ⟨ho, rfl, rfl, trivial⟩ T.sa ?_
  refine first_store I.kIn ho hcl rfl T.pass T.obj rfl hno fun h' tk' dx k dn dne hx hn => ?_
  have hnd : H dx = none := I.hok.fresh dn
  have offd : ∀ {b : Addr} {o : Obj}, hp.get? b = some o → b ≠ dx := fun q z => Nat.lt_irrefl _ (Nat.lt_of_lt_of_le (Heap.lt_size q) (z ▸ dn))
  have offa : ∀ {b : Addr}, H b = none → b ≠ a := fun n z => by
    rw [z, e] at n
    cases n
  have two : ∀ {b : Addr}, b ≠ a → b ≠ dx → (upd (upd H dx (exd dx [(f, y)])) a (exo a C (some dx))) b = H b := fun na nd => by rw [upd_ne na, upd_ne nd]
  have un : Un X.fs [] H (upd (upd H dx (exd dx [(f, y)])) a (exo a C (some dx))) hp h' := {
    keep := fun b o q n _ _ => k b o (offa n) q
    slot := fun b o q n _ _ => ⟨o.slots, k b o (offa n) q⟩
    free := fun b o q n _ => (two (offa n) (offd q)).trans n
    there := fun b o q _ => by
      by_cases hb : b = a
      · exact ⟨_, by rw [hb]; exact hx⟩
      · exact ⟨o, k b o hb q⟩
    tups := fun b xs q => (two (at_ne e q exo_tup) (ne_of_none q hnd)).trans q
    frzs := fun b o v q => (two (at_ne e q exo_frz) (ne_of_none q hnd)).trans q
    tbls := fun b ps q => ⟨#[], by rw [two (at_ne e q exo_tbl) (ne_of_none q hnd), q]; simp⟩ }
  refine h dx _ hnd dne (I.un (t' := tk') un fun b o q => ?_)
  by_cases hb : b = a
  · subst hb
    rw [upd_same] at q
    cases q
    exact exo_ok hx
  by_cases hd : b = dx
  · subst hd
    rw [upd_ne hb, upd_same] at q
    cases q
    exact exd_ok hn (relO_put (fs := []) ry fun g => True.intro)
  rw [two hb hd] at q
  refine (I.hok b o q).stay (fun c v hc z => k c v ?_ z) (fun c hc => (two (at_ne e hc exo_own) (ne_of_none hc hnd)).trans hc) (fun c xs hc => (two (at_ne e hc exo_tup) (ne_of_none hc hnd)).trans hc)
  rcases hc with hc | hc
  · rw [hc]
    exact hb
  · exact at_ne e hc exo_own
/-- self.f = e, the first field -/
def tOstB (K : PySem.W.Frag) (B n i : String) (bm : List Value) (f : Str) (to te : TE) : TS := fun D σ H => te σ H fun y H1 => to σ H1 fun x H2 => ∃ a C : Addr, x = .ref a ∧ OexB K C B n i bm ∧ PySem.W.findIn K (.ref C) f = some none ∧
  H2 a = some (exo a C none) ∧ ∀ dx, H2 dx = none → dx ≠ a → D.nx σ (upd (upd H2 dx (exd dx [(f, y)])) a (exo a C (some dx)))
theorem ps_ostB {o e : Expr} {to te : TE} {p' pos : Pos} (ho : PE X o to) (he : PE X e te) (hs : swapsWith e (some (.Attribute o f p')) pos.line X.env = pure false := by rfl) : PS X (.Assign [.Attribute o f p'] e pos) (tOstB X.K B n i bm f to te) := by
  refine ⟨fun pins s σ H D I h => ?_⟩
  refine plainObj_wpAny_Assign_Attribute (thn (he.run pins s σ H _ I h) fun v s1 ⟨y, H1, I1, r1, q1⟩ => thn (ho.run pins s1 σ H1 _ I1 q1) fun u s2 ⟨x, H2, I2, r2, a, C, ex, T, hno, ea, q⟩ => ?_) hs
  subst ex
  obtain rfl : u = Value.ref a := r2
  exact first_field T I2 ea hno r1 fun dx s' nx ne J => ⟨σ, _, J, q dx nx ne⟩
theorem pmk_oexB {CX : CXT} {x : Str} {fI : Addr} {k : Nat} {fd : FuncData} {ps : List Str} {sp : Sp} {ds : List Value} {dvs : List V} {e : Expr} {es : List Expr} {ta : TA} {p pos : Pos} (T : OexB X.K C B n i bm) (iC : PySem.W.findIn X.K (.ref C) "__init__" = some (some (.ref fI))) (tI : PySem.W.typeIn X.K (.ref fI) = some (.type "function"))
    (F1 : FnOk X.prog X.w X.K X.mg X.base CX k fI fd ps sp) (hr : Room (k + 1) X.A) (hb : Binds X.K fd ps ds) (hd : Vals dvs ds) (hx : Passes CX X (fun _ _ _ => False)) (hg : Gl X x) (hm : X.mg x = some (.ref C)) (ha : PA X (e :: es) ta)
    (hdb : (x == ("__debug__" : Str)) = false := by decide) (he : starEach (e :: es) X.env = (false, eval e X.env) :: starEach es X.env := by rfl) (hpl : (backTo pos (starEach es X.env)).any (·.1) = false := by rfl) :
    PMk X (.Call (.Name x p) (e :: es) [] pos) (tMkO C sp dvs ta) := by
  intro pins s σ H Q I h
  obtain ⟨nm, q, N, bs, sn, sub, ab, col, dd, k0, k1, k2, k3, k5, hC⟩ := T.cls
  refine wpAny_Call_Name_kw (ld_glob I hg hm ?_ hdb)
  refine PySem.W.callWith_K (h₀ := X.base) I.ok.mod.kin T.kC (thn (ha.run pos pins s σ H _ I h) fun us s1 ⟨vs, H1, I1, r1, hz, q1⟩ => ⟨I1.kIn, ?_⟩) he hpl
  show wpAny _ _ (call (.ref C) us) _ _ _
  obtain ⟨hp, g, dr, tk, os⟩ := s1
  have hsz : hp.objs.size ≤ hp.objs.size + 1 := Nat.le_succ _
  have hq := q1 (hp.objs.size + 1) (I1.hok.fresh hsz)
  have hget : ((hp.push (PySem.W.kdv_tup us)).push (PySem.HandSPX.excO C hp.objs.size)).get? (hp.objs.size + 1) = some (PySem.HandSPX.excO C hp.objs.size) := by heap_get
  have kk : ∀ b o, hp.get? b = some o → ((hp.push (PySem.W.kdv_tup us)).push (PySem.HandSPX.excO C hp.objs.size)).get? b = some o := fun b o z => Heap.get?_push_of_some _ (Heap.get?_push_of_some _ z)
  have I2 := I1.laid (t' := tk) (a := hp.objs.size + 1) (o := exo (hp.objs.size + 1) C none) (h' := (hp.push (PySem.W.kdv_tup us)).push (PySem.HandSPX.excO C hp.objs.size)) kk hsz (exo_ok hget)
  have r2 : Vals (V.ref (hp.objs.size + 1) :: (vs ++ dvs)) (Value.ref (hp.objs.size + 1) :: (us ++ ds)) := .cons rfl (r1.append hd)
  have hl : (Value.ref (hp.objs.size + 1) :: us ++ ds).length = ps.length := (F1.len _ _ _ _ hq ▸ r2.length).symm
  have hus : us.length ≤ sizeLine := by
    rw [← Paired.length r1, sizeLine_eq]
    omega
  refine wpAny_call (PySem.HandSPX.call_own T.base (fun _ => rfl) (I1.kIn _ _ hC) (PySem.W.looks_findIn I1.kIn iC) (fun self => PySem.W.bind_fn I1.kIn self tI) hus
    (codeAny_mono (F1.run _ X.stack _ _ ⟨Value.ref (hp.objs.size + 1) :: us, []⟩ (Value.ref (hp.objs.size + 1) :: (us ++ ds)) _ _ (fun _ _ _ => False) (hr.make C us []) (I2.env0.make C us []) (hb _ (Value.ref (hp.objs.size + 1) :: us) I2.kIn hl) r2 hq) fun r s' back => ?_))
  cases r with
  | error er => exact hx pins σ _ _ er s' I2 back
  | ok fl =>
    cases fl with
    | ret u =>
      obtain ⟨v, H2, os2, bare2, un2, hok2, rv, ev, d, fs, ea, ed, hd1, q2⟩ := back
      subst ev
      obtain ⟨h2, g2, d2, t2, os'⟩ := s'
      exact ⟨rv, mk_end (raises_own T.exC T.tyC) I1 hsz kk un2 hok2 os2 bare2 ea ed hd1 q2⟩
    | next => exact False.elim back
    | brk => exact False.elim back
    | cont => exact False.elim back
end
/-! ### copied, of what is no container; TooMany -/
theorem scCopied : FnScope ["value", "part", "key"] ["value"] (defScope sCopied) := ⟨rfl, rfl, rfl, by decide +kernel, rfl, by decide +kernel, by decide +kernel⟩
def spCopied (K : PySem.W.Frag) : Sp := fun vs H Q _ => ∃ (v : V) (t : String), vs = [v] ∧ TyX K H v (.type t) ∧ kitB t "list" = some false ∧ kitB t "tuple" = some false ∧ kitB t "dict" = some false ∧ Q v H
theorem ok_copied {f : Addr} {fd : FuncData} (F : Fun K "copied" "copied" sCopied f fd) (T : Txt mg) (hd : mg "dict" = none) : FnOk P w K mg base CX0 1 f fd ["value"] (spCopied K) := by
  refine F.ok scCopied (fun vs H Q E h => ?_) (fun cdv A outer s H vs Q E hr h => ?_)
  · obtain ⟨v, t, rfl, _⟩ := h
    rfl
  · obtain ⟨v, t, rfl, ty, k1, k2, k3, q⟩ := h
    have nd := scCopied.nd
    refine ⟨_, (pss_cons (ps_if (pt_val (pe_callB call_isi (by rfl) T.isinstance (by decide +kernel) (pa_cons (pv 0) (pa_cons (pe_bltn (v := .ty "list") (by rfl) T.list (by decide +kernel) rfl) pa_nil))))
      (pss_one ps_never)
      pss_nil)
    (pss_cons (ps_if (pt_val (pe_callB call_isi (by rfl) T.isinstance (by decide +kernel) (pa_cons (pv 0) (pa_cons (pe_bltn (v := .ty "tuple") (by rfl) T.tuple (by decide +kernel) rfl) pa_nil))))
      (pss_one ps_never)
      pss_nil)
    (pss_cons (ps_if (pt_val (pe_callB call_isi (by rfl) T.isinstance (by decide +kernel) (pa_cons (pv 0) (pa_cons (pe_bltn (v := .ty "dict") (by rfl) T.dict (by decide +kernel) rfl) pa_nil))))
      (pss_one ps_never)
      pss_nil)
    (pss_one (ps_ret (pv 0)))))), ?_⟩
    refine ⟨_, rfl, _, .ty "list", _, _, _, rfl, .ty "list", ty, kit_ty k1, _, rfl, iteF ?_⟩
    refine ⟨_, rfl, _, .ty "tuple", _, _, _, rfl, .ty "tuple", ty, kit_ty k2, _, rfl, iteF ?_⟩
    refine ⟨_, rfl, _, .ty "dict", _, _, _, rfl, .ty "dict", ty, kit_ty k3, _, rfl, iteF ?_⟩
    exact ⟨_, rfl, q⟩
abbrev sTMInit : Stmt := (inClass (top 10) 0)
theorem scTMInit : FnScope ["self", "most"] ["self", "most"] (defScope sTMInit) := ⟨rfl, rfl, rfl, by decide +kernel, rfl, by decide +kernel, by decide +kernel⟩
abbrev ofMro : List Value := [.type "OverflowError", .type "ArithmeticError", .type "Exception", .type "BaseException", .type "object"]
structure TooF (K : PySem.W.Frag) (mg : Str → Option Value) where
  C : Addr
  ob : OexB K C "OverflowError" "OverflowError.__new__" "OverflowError.__init__" ofMro
  mgC : mg "TooMany" = some (.ref C)
  no : PySem.W.findIn K (.ref C) "most" = some none
  fI : Addr
  fdI : FuncData
  FI : Fun K "__init__" "TooMany.__init__" sTMInit fI fdI
  bI : Binds K fdI ["self", "most"] []
  iC : PySem.W.findIn K (.ref C) "__init__" = some (some (.ref fI))
  tI : PySem.W.typeIn K (.ref fI) = some (.type "function")
  fC : Addr
  fdC : FuncData
  DCP : DefAt K mg "copied" sCopied ["value"] fC fdC
def spTM (C : Addr) : Sp := fun vs H Q _ => ∃ (a : Addr) (k : Int), vs = [.ref a, .int k] ∧ H a = some (exo a C none) ∧ ∀ dx, H dx = none → dx ≠ a → Q .non (upd (upd H dx (exd dx [("most", .int k)])) a (exo a C (some dx)))
theorem ok_tm (M : TooF K mg) (T : Txt mg) : FnOk P w K mg base CX0 2 M.fI M.fdI ["self", "most"] (spTM M.C) := by
  have DCP := M.DCP
  have GCP : FnOk P w K mg base CX0 1 M.fC M.fdC ["value"] (spCopied K) := ok_copied M.DCP.F T T.dict
  refine M.FI.ok scTMInit (fun vs H Q E h => ?_) (fun cdv A outer s H vs Q E hr h => ?_)
  · obtain ⟨a, k, rfl, _⟩ := h
    rfl
  · obtain ⟨a, k, rfl, ha, q⟩ := h
    have nd := scTMInit.nd
    refine ⟨_, (pss_one (ps_ostB (B := "OverflowError") (n := "OverflowError.__new__") (i := "OverflowError.__init__") (bm := ofMro) (pv 0) (pe_call GCP (hr.mono (by decide)) (by rfl) DCP.M DCP.F.kp DCP.B .nil pass0 (pa_cons (pv 1) pa_nil)) rfl)), ?_⟩
    exact ⟨_, rfl, .int k, "int", rfl, .base (.int k), by decide +kernel, by decide +kernel, by decide +kernel, _, rfl, a, M.C, rfl, M.ob, M.no, ha, q⟩
/-! ### west + east -/
theorem scAdd : FnScope ["self", "other", "columns"] ["self", "other"] (defScope sSAdd) := ⟨rfl, rfl, rfl, by decide +kernel, rfl, by decide +kernel, by decide +kernel⟩
structure SecA (K : PySem.W.Frag) (S : Addr) where
  fA : Addr
  dA : FuncData
  FA : Fun K "__add__" "Section.__add__" sSAdd fA dA
  bA : Binds K dA ["self", "other"] []
  self1 : PySem.W.selfFirst K S = true
  find : PySem.W.findIn K (.ref S) "__add__" = some (some (.ref fA))
  isF : PySem.W.isFn K (.ref fA) = true
def spAdd (S C M : Addr) : Sp := fun vs H Q E => ∃ (p q : Addr) (xs ys : List V) (cs ds : List Col) (Y : Addr → Prop), vs = [.ref p, .ref q] ∧ SecAt S C Y H p xs cs ∧ SecAt S C Y H q ys ds ∧ (∀ z, Y z → Old H z) ∧ 1 ≤ xs.length ∧ 1 ≤ ys.length ∧ xs.length + ys.length ≤ 1000 ∧
  (xs.length + ys.length ≤ 12 → ∀ H' p', SecAt S C Y H' p' (xs ++ ys) (cs ++ ds) → Same H H' → Q (.ref p') H') ∧
  (12 < xs.length + ys.length → ∀ H' d, H d = none → H' d = some (.xd [("most", .int 12)]) → Same H H' → E (.ref M) (some d) H')
theorem ok_add (C : ColF K mg) (CI : ColI K C.C) (Z : SecF K mg) (ZI : ColI K Z.C) (Z4 : SecA K Z.C) (T : Txt mg) (D : SDefs K mg) (M : TooF K mg) : FnOk P w K mg base (L2.CX P w) 6 Z4.fA Z4.dA ["self", "other"] (spAdd Z.C C.C M.C) := by
  have GSInitt := ok_sinitt (P := P) (w := w) (base := base) C CI Z T D
  have GTM := ok_tm (P := P) (w := w) (base := base) M T
  refine Z4.FA.okX scAdd (fun vs H Q E h => ?_) (fun cdv A outer s H vs Q E hr h => ?_)
  · obtain ⟨p, q, xs, ys, cs, ds, Y, rfl, _⟩ := h
    rfl
  · obtain ⟨p, q, xs, ys, cs, ds, Y, rfl, SA, SB, hY, hx, hy, hz, good, bad⟩ := h
    have nd := scAdd.nd
    obtain ⟨⟨dx, t, hp, nt, ht⟩, _, CA⟩ := id SA
    obtain ⟨⟨dx2, t2, hp2, nt2, ht2⟩, _, CB⟩ := id SB
    have lk : ∀ t, List.lookup ("_columns" : Str) (sF t) = some (V.ref t) := fun t => by unfold sF; rw [List.lookup_cons_self]
    refine ⟨_, (pss_cons (ps_if (pt_not (pt_val (pe_callB call_isi (by rfl) T.isinstance (by decide +kernel) (pa_cons (pv 1) (pa_cons (pe_glob (v := .ref Z.C) rfl Z.mgC rfl) pa_nil)))))
      (pss_one ps_never)
      pss_nil)
    (pss_cons (ps_set (i := 2) nd rfl (.inl rfl) (pe_op op_catT (pe_fld (pv 0) rfl) (pe_fld (pv 1) rfl)))
    (pss_cons (ps_if (pt_cmpR op_gt (pe_callB call_len_seq (by rfl) T.len (by decide +kernel) (pa_cons (pv 2) pa_nil)) (ClX.pe_cval (pe_glob (v := .ref Z.C) rfl Z.mgC rfl)) (nomark _))
      (pss_one (ps_raise rfl (takes_of rfl rfl rfl rfl) (pmk_oexB M.ob M.iC M.tI GTM (hr.mono (by decide)) M.bI .nil pass0 (by rfl) M.mgC (pa_cons (ClX.pe_cval (pe_glob (v := .ref Z.C) rfl Z.mgC rfl)) pa_nil))))
      pss_nil)
    (pss_one (ps_ret (pe_make Z.mkC GSInitt (hr.mono (by decide)) (by rfl) Z.mgC Z.bI .nil pass0 (pa_cons (pv 2) pa_nil))))))), ?_⟩
    refine ⟨_, rfl, _, .ref Z.C, .ref Z.C, .ref Z.C, true, rfl, .own _, .base (.ins hp2 Z.cl ZI.ha ZI.hn ZI.ht ZI.ho), (by unfold PySem.W.kitOne; rw [if_pos (beq_self_eq_true _)]), _, rfl, iteF ?_⟩
    have nex : xs ≠ [] := fun z => by rw [z] at hx; exact absurd hx (by decide)
    have ney : ys ≠ [] := fun z => by rw [z] at hy; exact absurd hy (by decide)
    refine ⟨_, rfl, p, Z.C, dx, _, _, rfl, hp, Z.cl, Z.nCols, lk t, _, rfl, q, Z.C, dx2, _, _, rfl, hp2, Z.cl, Z.nCols, lk t2, ?_⟩
    refine ⟨t, t2, xs, ys, rfl, rfl, .inl (.inl ht), .inl (.inl ht2), nex, by rw [sizeLine_eq]; omega, fun z => absurd z ney, fun _ l nl => ?_⟩
    have st := new_same (o := .tup (xs ++ ys)) nl
    have hl : (upd H l (.tup (xs ++ ys))) l = some (.tup (xs ++ ys)) := upd_same
    have nlY : ¬ Y l := fun z => hY l z nl
    generalize upd H l (.tup (xs ++ ys)) = H1 at st hl ⊢
    have hlen : (xs ++ ys).length = xs.length + ys.length := List.length_append
    refine ⟨_, rfl, l, xs ++ ys, rfl, .inr (.inl (.inl hl)), Z.C, Z.mc, .int 12, Z.u12, rfl, Z.rd, Z.most, _, _, rfl, rfl, _, rfl, ?_⟩
    by_cases h12 : xs.length + ys.length ≤ 12
    · rw [decide_eq_false (show ¬ (12 : Int) < ((xs ++ ys).length : Int) by omega)]
      refine iteF ⟨_, rfl, ?_⟩
      exact smake_goalt (cs := cs ++ ds) hl nlY (CsAt.append (CA.keep fun b o nb e => ⟨st _ _ e, nb⟩) (CB.keep fun b o nb e => ⟨st _ _ e, nb⟩)) (fun z o => same_old st (hY z o)) (by omega) (by omega) fun H' p' A _ s' => good h12 H' p' A (st.trans s')
    · rw [decide_eq_true (show (12 : Int) < ((xs ++ ys).length : Int) by omega)]
      refine iteT ⟨Z.C, Z.mc, .int 12, Z.u12, rfl, Z.rd, Z.most, (by show 1 ≤ 1000; decide), fun a na => ⟨a, 12, rfl, upd_same, fun dd nd ne => ⟨rfl, dd, [("most", .int 12)], upd_same, (by rw [upd_ne ne, upd_same]), ?_, ?_⟩⟩⟩
      · rw [upd_ne ne] at nd
        exact nd
      · rw [upd_ne ne] at nd
        have hdd : H dd = none := by
          cases e : H dd with
          | none => rfl
          | some o => rw [st _ _ e] at nd; cases nd
        refine bad (by omega) _ dd hdd upd_same fun b o e => ?_
        have e1 := st _ _ e
        rw [upd_ne (ne_of_none e hdd), del_ne (ne_of_none e1 na), upd_ne (ne_of_none e1 na), upd_ne (ne_of_none e hdd), upd_ne (ne_of_none e1 na)]
        exact e1
/-! ### isinstance of the error that a suite holds, its dict there -/
structure XIs (K : PySem.W.Frag) (C : Addr) : Prop where
  hcl : (PySem.W.clsIn K C).isSome = true
  hg : PySem.W.findIn K (.ref C) "__getattribute__" = some (some (.builtin "BaseException.__getattribute__"))
  hk : PySem.W.findIn K (.ref C) "__getattr__" = some none
  hs : PySem.W.subIn K (.ref C) (.type "BaseException") = some true
  ha : PySem.W.findIn K (.ref C) "__class__" = some (some (.builtin "object.__class__"))
  hn : PySem.W.specialIn K (.builtin "object.__class__") "__get__" = some (some (.builtin "getset_descriptor.__get__"))
  ht : PySem.W.takesIn K (.builtin "object.__class__") = some true
  hm : PySem.W.mroIn K C (.type "object") = some true
def rIsX (K : PySem.W.Frag) (cls : Value) (d : Option Addr) (a : Addr) : List V → Hp → VK → Prop := fun xs H Q => ∃ (C dd : Addr) (fs : List (Str × V)) (c : V) (cv : Value) (b : Bool), cls = .ref C ∧ d = some dd ∧ H dd = some (.xd fs) ∧ XIs K C ∧ xs = [.ref a, c] ∧ (∀ u, RelV c u → u = cv) ∧ PySem.W.kitOne K (.ref C) cv = some b ∧ Q (.bl b) H
open PySem PySem.Spec PyProof.Rows in
theorem call_isX {X : Cx} {a : Addr} {oe : Obj} {cls : Value} {d : Option Addr} {pn : List (Addr × Obj)} (hz : Zc cls d oe) (hf : ∃ vs, oe.data = .fields vs) : CallR (X.suite a ((a, oe) :: pn)) (.builtin "isinstance") (rIsX X.K cls d a) := by
  intro pins s σ H xs us Q I r h
  obtain ⟨C, dd, fs, c, cv, b, rfl, rfl, hd, M, rfl, hcv, e, q⟩ := h
  cases r with
  | cons rx rr =>
    cases rr with
    | cons rt rr =>
      cases rr
      cases rx
      have ec := hcv _ rt
      subst ec
      obtain ⟨hget, _⟩ := I.pin (a, oe) (List.mem_append.mpr (.inl List.mem_cons_self))
      obtain ⟨vs, hv⟩ := hf
      obtain ⟨mA, hns, _⟩ := (show ObjOk X.prog X.w H s.heap dd (.xd fs) from I.hok dd _ hd)
      obtain ⟨od, ho, _⟩ := lookIn_ns hns
      have J : PySem.W.InstAt s.heap a oe C (some od) := ⟨hget, hz.1, by unfold PySem.W.notCls; rw [hv] <;> rfl, by rw [hz.2]; exact ho⟩
      exact PySem.W.kia_one (PySem.W.kitx_exc M.hcl M.hg M.hk M.hs M.ha M.hn M.ht M.hm) I.kIn J e (fun z => nomatch z) fun tk => ⟨.bl b, H, I.kept (t' := tk) fun _ _ z => z, rfl, q⟩
/-! ### _law_sum -/
theorem scSum : FnScope ["_law_west", "_law_east", "e"] ["_law_west", "_law_east"] (defScope sSum) := ⟨rfl, rfl, rfl, by decide +kernel, rfl, by decide +kernel, by decide +kernel⟩
def sumD (cs ds : List Col) : PyData := if cs.length + ds.length ≤ 12 then .tuple [.str "made", .list ((cs ++ ds).map colD)] else .tuple [.str "many", .int 12, .bool true]
structure TooX (K : PySem.W.Frag) (C : Addr) : Prop where
  xf : XfC K C
  xi : XIs K C
  te : PySem.W.exmOne K (.ref C) (.ref C) = some true
  kit : PySem.W.kitOne K (.ref C) (.type "OverflowError") = some true
def spSum (S C : Addr) : Sp := fun vs H Q _ => ∃ (p q : Addr) (xs ys : List V) (cs ds : List Col) (Y : Addr → Prop), vs = [.ref p, .ref q] ∧ SecAt S C Y H p xs cs ∧ SecAt S C Y H q ys ds ∧ (∀ z, Y z → Old H z) ∧ 1 ≤ xs.length ∧ 1 ≤ ys.length ∧ xs.length + ys.length ≤ 1000 ∧ (∀ c ∈ cs ++ ds, c.beds.length ≤ 900) ∧
  ∀ H' v, DV (fun _ => False) H' v (sumD cs ds) → Same H H' → Q v H'
theorem ok_sum {f fSH : Addr} {fd fdSH : FuncData} (F : Fun K "_law_sum" "_law_sum" sSum f fd) (C : ColF K mg) (CI : ColI K C.C) (Z : SecF K mg) (ZI : ColI K Z.C) (Z4 : SecA K Z.C) (T : Txt mg) (D : SDefs K mg) (M : TooF K mg) (MX : TooX K M.C) (DSH : DefAt K mg "_law_shown" sShown ["_law_ground"] fSH fdSH) :
    FnOk P w K mg base (L2.CX P w) 7 f fd ["_law_west", "_law_east"] (spSum Z.C C.C) := by
  have GAdd := ok_add (P := P) (w := w) (base := base) C CI Z ZI Z4 T D M
  have GSH : FnOk P w K mg base CX0 3 fSH fdSH ["_law_ground"] (spShown Z.C C.C) := ok_shown DSH.F T C Z
  refine F.okX scSum (fun vs H Q E h => ?_) (fun cdv A outer s H vs Q E hr h => ?_)
  · obtain ⟨p, q, xs, ys, cs, ds, Y, rfl, _⟩ := h
    rfl
  · obtain ⟨p, q, xs, ys, cs, ds, Y, rfl, SA, SB, hY, hx, hy, hz, hb, q⟩ := h
    have nd := scSum.nd
    refine ⟨_, pss_one (ps_try_as (i := 2) rfl rfl nd rfl rfl ⟨rfl, by decide, .inl M.mgC⟩ takes0
      (fun W pn xe tk _ => pss_one (ps_ret (pe_tup (pa_cons pe_str (pa_cons (pe_call GSH (hr.mono (by decide)) (by rfl) DSH.M DSH.F.kp DSH.B .nil pass0
        (pa_cons (pe_addS GAdd hr Z4.self1 Z4.find Z4.isF Z4.bA (fun σ => passAt tk σ) (pv 0) (pv 1)) pa_nil)) pa_nil)))))
      (fun a oe cls d pn hz hf => pss_one (ps_ret (pe_tup (pa_cons pe_str (pa_cons (pe_xf MX.xf M.no hz hf (pv 2)) (pa_cons (pe_callB (call_isX hz hf) (by rfl) T.isinstance (by decide +kernel)
        (pa_cons (pv 2) (pa_cons (pe_bltn (v := .ty "OverflowError") (by rfl) T.OverflowError (by decide +kernel) rfl) pa_nil))) pa_nil))))))), ?_⟩
    obtain ⟨⟨dx, t1, hp1, _, _⟩, _, CA⟩ := id SA
    obtain ⟨⟨dx2, t2, hp2, _, _⟩, _, CB⟩ := id SB
    have lA := CA.length
    have lB := CB.length
    refine ⟨_, rfl, _, rfl, p, _, dx, dx2, _, _, rfl, rfl, hp1, hp2, p, _, xs, ys, cs, ds, Y, rfl, SA, SB, hY, hx, hy, hz, fun h12 H1 p' A s1 => ⟨⟨p', rfl⟩, ?_⟩, fun h12 H1 d hd1 hxd s1 => ?_⟩
    · refine ⟨p', _, _, Y, rfl, A, hb, by rw [List.length_append]; omega, fun H2 l zs hl S nol s2 => ⟨(by show 2 ≤ sizeLine; decide), fun t nt => ?_⟩⟩
      have st := new_same (o := .tup [.str "made", .ref l]) nt
      refine q _ _ ?_ (s1.trans (s2.trans st))
      unfold sumD
      rw [if_pos (by omega)]
      exact .tup (fun z => z) upd_same (.cons (.str _) (.cons (.lst (fun z => z) (st _ _ hl) (S.keep fun b o nb e => ⟨st _ _ e, nb⟩)) .nil))
    · refine ⟨true, MX.te, fun _ a ha => ?_, fun z => nomatch z⟩
      refine ⟨_, rfl, rfl, rfl, d, _, _, rfl, hxd, (by rw [List.lookup_cons_self]), _, rfl, M.C, d, _, .ty "OverflowError", .type "OverflowError", true, rfl, rfl, hxd, MX.xi, rfl, (fun u r => r), MX.kit, (by show 3 ≤ sizeLine; decide), fun t nt => ?_⟩
      refine q _ _ ?_ (s1.trans (new_same nt))
      unfold sumD
      rw [if_neg (by omega)]
      exact .tup (fun z => z) upd_same (.cons (.str _) (.cons (.int _) (.cons (.bl _) .nil)))
/-! ### a promise that never wishes for an error serves where none may leave -/
open PySem PySem.Spec PyProof.Rows in
theorem FnOk.to0 {n : Nat} {f : Addr} {fd : FuncData} {ps : List Str} {sp sp0 : Sp} (F : FnOk P w K mg base (L2.CX P w) n f fd ps sp) (h : ∀ vs H Q E, sp0 vs H Q E → sp vs H Q fun _ _ _ => False) : FnOk P w K mg base CX0 n f fd ps sp0 := by
  refine ⟨fun vs H Q E q => F.len vs H Q _ (h vs H Q E q), fun A outer s H args us vs Q E hr he hb r q => ?_⟩
  refine codeAny_mono (F.run A outer s H args us vs Q _ hr he hb r (h vs H Q E q)) fun x s' hq => ?_
  cases x with
  | error e =>
    obtain ⟨_, _, _, _, _, _, _, _, _, _, _, _, z⟩ := hq
    exact z.elim
  | ok fl => cases fl <;> exact hq
def spAdd0 (S C : Addr) : Sp := fun vs H Q _ => ∃ (p q : Addr) (xs ys : List V) (cs ds : List Col) (Y : Addr → Prop), vs = [.ref p, .ref q] ∧ SecAt S C Y H p xs cs ∧ SecAt S C Y H q ys ds ∧ (∀ z, Y z → Old H z) ∧ 1 ≤ xs.length ∧ 1 ≤ ys.length ∧ xs.length + ys.length ≤ 12 ∧
  (∀ H' p', SecAt S C Y H' p' (xs ++ ys) (cs ++ ds) → Same H H' → Q (.ref p') H')
theorem ok_add0 (C : ColF K mg) (CI : ColI K C.C) (Z : SecF K mg) (ZI : ColI K Z.C) (Z4 : SecA K Z.C) (T : Txt mg) (D : SDefs K mg) (M : TooF K mg) : FnOk P w K mg base CX0 6 Z4.fA Z4.dA ["self", "other"] (spAdd0 Z.C C.C) :=
  FnOk.to0 (ok_add (P := P) (w := w) (base := base) C CI Z ZI Z4 T D M) fun vs H Q E q => by
    obtain ⟨p, q', xs, ys, cs, ds, Y, e, SA, SB, hY, h1, h2, h12, good⟩ := q
    exact ⟨p, q', xs, ys, cs, ds, Y, e, SA, SB, hY, h1, h2, by omega, fun _ => good, fun z => absurd z (by omega)⟩
theorem ok_sum0 {f fSH : Addr} {fd fdSH : FuncData} (F : Fun K "_law_sum" "_law_sum" sSum f fd) (C : ColF K mg) (CI : ColI K C.C) (Z : SecF K mg) (ZI : ColI K Z.C) (Z4 : SecA K Z.C) (T : Txt mg) (D : SDefs K mg) (M : TooF K mg) (MX : TooX K M.C) (DSH : DefAt K mg "_law_shown" sShown ["_law_ground"] fSH fdSH) :
    FnOk P w K mg base CX0 7 f fd ["_law_west", "_law_east"] (spSum Z.C C.C) := FnOk.to0 (ok_sum F C CI Z ZI Z4 T D M MX DSH) fun _ _ _ _ q => q
section
variable {X : Cx} {CX : CXT} {n : Nat} {C f : Addr} {fd : FuncData} {ps : List Str} {sp : Sp}
open PySem PySem.Spec PyProof.Rows in
theorem op_neOwn (F : FnOk X.prog X.w X.K X.mg X.base CX n f fd ps sp) (hr : Room (n + 3) X.A) (hs : PySem.W.findIn X.K (.ref C) "__ne__" = some (some (.builtin "object.__ne__"))) (he : PySem.W.findIn X.K (.ref C) "__eq__" = some (some (.ref f))) (hf : PySem.W.isFn X.K (.ref f) = true)
    (ho : PySem.W.mroIn X.K C (.type "object") = some true) (hb : Binds X.K fd ps []) (hx : Passes CX X E0) :
    OpR X (compareOp .NotEq) (fun x y H Q => ∃ a b dx dy fs gs, x = V.ref a ∧ y = V.ref b ∧ H a = some (.ins C dx fs) ∧ H b = some (.ins C dy gs) ∧ sp [.ref a, .ref b] H (fun v H' => ∃ k : Bool, v = .bl k ∧ Q (.bl (!k)) H') E0) := by
  intro pins s σ H x y v u Q I rx ry h
  obtain ⟨a, b, dx, dy, fs, gs, rfl, rfl, ha, hb', q⟩ := h
  cases rx
  cases ry
  obtain ⟨mA, J, _⟩ := ins_get I.hok ha
  obtain ⟨mB, J', _⟩ := ins_get I.hok hb'
  obtain ⟨od, J, _⟩ := J.look
  obtain ⟨od', J', _⟩ := J'.look
  have KI := I.kIn
  have S := PySem.F.cmp_object.ne
  have hl := F.len _ _ _ _ q
  have hu1 : X.A.in1.units < cLine := by
    have := hr.un
    show X.A.units + 1 < cLine
    omega
  -- the own == at two levels deeper
  have own : wpAny (model X.prog X.w) X.A.in1 (call (.ref f) [.ref a, .ref b]) (fun r s' => ∃ k, r = Value.bool k ∧ EP X pins σ Q (Value.bool (!k)) s') X.xe s := by
    refine wpAny_call (codeAny_mono (F.run X.A.in1 X.stack s H ⟨[.ref a, .ref b], []⟩ [.ref a, .ref b] [.ref a, .ref b] _ E0 (hr.in1.mono (by omega)) I.env0.in1 (by
      have := hb s [.ref a, .ref b] I.kIn (by simpa using hl)
      simpa using this) (.cons rfl (.cons rfl .nil)) q) fun r s' hq => ?_)
    cases r with
    | error e => exact hx pins σ H s e s' I hq
    | ok fl =>
      cases fl with
      | ret z =>
        obtain ⟨v, H', I', rz, k, ev, q'⟩ := I.after hq
        subst ev
        cases (show z = Value.bool k from rz)
        exact ⟨k, rfl, .bl (!k), H', I', rfl, q'⟩
      | next => exact False.elim hq
      | brk => exact False.elim hq
      | cont => exact False.elim hq
  have sub : PySem.W.Looks (model X.prog X.w) s.heap (isInstance (.ref a) (.type "object")) true := J.type.andThen (PySem.W.looks_mroIn KI ho)
  have body : wpAny (model X.prog X.w) X.A.in1 (Builtin.«object.__ne__» ⟨[.ref a, .ref b], []⟩) (fun r s' => ∃ k, r = Fin.done (.ret (Value.bool (!k))) ∧ EP X pins σ Q (Value.bool (!k)) s') X.xe s := by
    unfold Builtin.«object.__ne__»
    refine wpAny_bind (wpAny_of_eq (a := (Value.ref a, [Value.ref b])) rfl ?_)
    refine wpAny_bind (wpAny_cRoomFor hu1 ?_)
    refine wpAny_bind (PySem.W.ifBound_K KI J he hf (wpAny_mono own (fun r s' hq => ?_) fun _ _ e => e))
    obtain ⟨k, rfl, hq⟩ := hq
    refine wpAny_bind (wpAny_truthy_bool ?_)
    exact wpAny_pure ⟨k, rfl, hq⟩
  have ne : wpAny (model X.prog X.w) X.A (call (.builtin "object.__ne__") [.ref a, .ref b]) (fun r s' => ∃ k, r = Value.bool k ∧ EP X pins σ Q (Value.bool k) s') X.xe s := by
    refine wpAny_call (codeAny_call_builtin S.plain PySem.F.cmpEntry_ne (@PySem.W.check_slot (model X.prog X.w) _ _ s "object.__ne__" "object" "__ne__" (.ref a) [.ref b] [] _ PySem.F.cmpKind_ne PySem.F.cmpSplit_ne sub (PySem.F.cmpArgs_ne _ _) ?_))
    refine wpAny_mono body (fun r s' hq => ?_) fun _ _ e => e
    obtain ⟨k, rfl, hq⟩ := hq
    exact ⟨!k, rfl, hq⟩
  have one : wpAny (model X.prog X.w) X.A (tryCompare (.ref a) (cmpInfo .NotEq).2.1 (.ref b)) (fun r s' => ∃ v, r = some v ∧ EP X pins σ Q v s') X.xe s := by
    unfold tryCompare
    have bnd : wpAny (model X.prog X.w) X.A (callSpecialIfBound? (.ref a) (cmpInfo .NotEq).2.1 [.ref b]) (fun r s' => ∃ k, r = some (Value.bool k) ∧ EP X pins σ Q (Value.bool k) s') X.xe s := by
      show wpAny (model X.prog X.w) X.A (callSpecialIfBound? (.ref a) "__ne__" [.ref b]) _ X.xe s
      simp only [callSpecialIfBound?, bindSpecialIfBound?]
      refine wpAny_holding (wpAny_bind (wpAny_bind (wpAny_bind (J.type.here ((PySem.W.looks_findIn KI hs).here ?_)))))
      refine wpAny_bind (wpAny_askSetting (wpAny_ite ?_))
      have fin : wpAny (model X.prog X.w) X.A (call (.builtin "object.__ne__") ([.ref a] ++ [.ref b]) >>= fun v => pure (some v)) (fun r s' => ∃ k, r = some (Value.bool k) ∧ EP X pins σ Q (Value.bool k) s') X.xe s :=
        wpAny_bind (wpAny_mono ne (fun v s' hv => wpAny_pure (by obtain ⟨k, rfl, hq⟩ := hv; exact ⟨k, rfl, hq⟩)) fun _ _ e => e)
      split
      · simp only [S.bind]
        exact wpAny_bind (wpAny_pure (wpAny_pure (by exact fin)))
      · simp only [S.bind]
        exact wpAny_tryCatch (wpAny_bind (wpAny_pure (wpAny_pure (by exact fin))))
    refine wpAny_bind (wpAny_mono bnd (fun r s' hq => ?_) fun _ _ e => e)
    obtain ⟨k, rfl, hq⟩ := hq
    exact wpAny_pure ⟨_, rfl, hq⟩
  show wpAny _ _ (richCompare .NotEq (.ref a) (.ref b)) _ _ s
  unfold richCompare
  simp only [oneThing_ref]
  have hu0 : X.A.units < cLine := by
    have := hr.un
    omega
  refine wpAny_holding (wpAny_bind (wpAny_cRoomFor hu0 ?_))
  refine wpAny_bind (J.type.here (wpAny_bind (J'.type.here ?_)))
  rw [show (Value.ref C != Value.ref C) = false from by simp]
  simp only [Bool.false_eq_true, if_false]
  refine wpAny_bind (wpAny_pure ?_)
  simp only [Bool.false_eq_true, if_false]
  refine wpAny_bind (wpAny_mono one (fun r s' z => ?_) fun _ _ e => e)
  obtain ⟨v, rfl, hq⟩ := z
  exact wpAny_pure hq
end
/-! ### columns in a row, compared -/
theorem col_lay {c : Col} (G : GoodC c) : (colD c).canLay0 = true ∧ (colD c).depth ≤ 3 ∧ (colD c).hasDict = false := by
  obtain ⟨h1, h2, h3⟩ := beds_lay G.beds.all
  obtain ⟨r1, r2, r3⟩ := o_lay c.root G.root
  obtain ⟨s1, s2, s3⟩ := o_lay c.cap G.cap
  refine ⟨?_, ?_, ?_⟩
  · simp only [colD, PyData.canLay0, PyData.canLayAll0, h1, r1, s1, Bool.and_true]
  · simp only [colD, PyData.depth, PyData.depthAll, r2, s2]; omega
  · simp only [colD, PyData.hasDict, PyData.hasDictAll, h3, r3, s3, Bool.or_false]
theorem cols_lay : ∀ {cs : List Col}, (∀ c ∈ cs, GoodC c) → PyData.canLayAll0 (cs.map colD) = true ∧ PyData.depthAll (cs.map colD) ≤ 3 ∧ PyData.hasDictAll (cs.map colD) = false
  | [], _ => ⟨by simp only [List.map_nil, PyData.canLayAll0], by simp only [List.map_nil, PyData.depthAll]; omega, by simp only [List.map_nil, PyData.hasDictAll]⟩
  | c :: r, h => by
    obtain ⟨h1, h2, h3⟩ := col_lay (h c (List.mem_cons_self ..))
    obtain ⟨h4, h5, h6⟩ := cols_lay (cs := r) fun x hx => h x (List.mem_cons_of_mem _ hx)
    refine ⟨?_, ?_, ?_⟩
    · simp only [List.map_cons, PyData.canLayAll0, h1, h4, Bool.and_true]
    · simp only [List.map_cons, PyData.depthAll]; omega
    · simp only [List.map_cons, PyData.hasDictAll, h3, h6, Bool.or_false]
theorem shaped_cols {cs : List Col} (h : ∀ c ∈ cs, GoodC c) : SeqAt.shaped (.list (cs.map colD)) = true ∧ (PyData.list (cs.map colD)).hasDict = false := by
  obtain ⟨h1, h2, h3⟩ := cols_lay h
  refine ⟨?_, by simp only [PyData.hasDict, h3]⟩
  simp only [SeqAt.shaped, PyData.canLay0, PyData.depth, h1, Bool.true_and]
  exact decide_eq_true (by omega)
theorem shaped_sum {cs ds : List Col} (h : ∀ c ∈ cs ++ ds, GoodC c) : SeqAt.shaped (sumD cs ds) = true ∧ (sumD cs ds).hasDict = false := by
  obtain ⟨h1, h2, h3⟩ := cols_lay h
  unfold sumD
  split
  · refine ⟨?_, by simp only [PyData.hasDict, PyData.hasDictAll, h3, Bool.or_false]⟩
    simp only [SeqAt.shaped, PyData.canLay0, PyData.canLayAll0, PyData.depth, PyData.depthAll, h1, Bool.and_true]
    rw [show PyData.strOk "made" = true by decide +kernel, Bool.true_and]
    exact decide_eq_true (by omega)
  · refine ⟨by decide +kernel, by decide +kernel⟩
/-! ### what except and isinstance ask of an own error's class -/
theorem own_class {K : PySem.W.Frag} {C : Addr} (hi : PySem.W.isClsIn K C = true) (ht : PySem.W.typeIn K (.ref C) = some (.type "type")) : PySem.W.kitCls K (.ref C) (.ref C) = PySem.W.subIn K (.ref C) (.ref C) := by
  have hs : (PySem.W.clsIn K C).isSome = true := hi
  show (if ((PySem.W.clsIn K C).isSome && PySem.W.typeIn K (.ref C) == some (.type "type")) = true then _ else _) = _
  rw [hs, ht, if_pos (by rfl)]
theorem exm_own {K : PySem.W.Frag} {C : Addr} (hb : PySem.W.subIn K (.ref C) (.type "BaseException") = some true) (hi : PySem.W.isClsIn K C = true) (ht : PySem.W.typeIn K (.ref C) = some (.type "type")) (hs : PySem.W.subIn K (.ref C) (.ref C) = some true) : PySem.W.exmOne K (.ref C) (.ref C) = some true := by
  show (if (PySem.W.subIn K (.ref C) (.type "BaseException") == some true) = true then PySem.W.kitCls K (.ref C) (.ref C) else none) = some true
  rw [hb, if_pos (by rfl), own_class hi ht, hs]
theorem kit_up {K : PySem.W.Frag} {C : Addr} (h : PySem.W.subIn K (.ref C) (.type "OverflowError") = some true) : PySem.W.kitOne K (.ref C) (.type "OverflowError") = some true := by
  show (if (Value.ref C == Value.type "OverflowError") = true then some true else PySem.W.kitCls K (.ref C) (.type "OverflowError")) = some true
  rw [if_neg (show ¬ (Value.ref C == Value.type "OverflowError") = true by simp)]
  show (if PySem.W.kitMeta "OverflowError" = true then PySem.W.subIn K (.ref C) (.type "OverflowError") else none) = some true
  rw [if_pos (by decide +kernel), h]
/-! ### the law -/
structure LDefs (K : PySem.W.Frag) (mg : Str → Option Value) where
  fF : Addr
  fdF : FuncData
  DF : DefAt K mg "_law_feed" sFeed ["_law_script"] fF fdF
  fD : Addr
  fdD : FuncData
  D : DefAt K mg "_law_draw" sDraw ["_law_feed_here", "_law_many"] fD fdD
  fP : Addr
  fdP : FuncData
  DP : DefAt K mg "_law_pick" sPick ["_law_feed_here", "_law_options"] fP fdP
  fNM : Addr
  fdNM : FuncData
  DNM : DefAt K mg "_law_names" sNames ["_law_feed_here", "_law_many"] fNM fdNM
  fLV : Addr
  fdLV : FuncData
  DLV : DefAt K mg "_law_level" sLevel ["_law_feed_here"] fLV fdLV
  fPO : Addr
  fdPO : FuncData
  DPO : DefAt K mg "_law_pool" sPool ["_law_feed_here"] fPO fdPO
  fLA : Addr
  fdLA : FuncData
  DLA : DefAt K mg "_law_layers" sLayers ["_law_feed_here", "_law_pool_here", "_law_most"] fLA fdLA
  fCL : Addr
  fdCL : FuncData
  DCL : DefAt K mg "_law_column" sColumn ["_law_feed_here", "_law_pool_here", "_law_most"] fCL fdCL
  fSE : Addr
  fdSE : FuncData
  DSE : DefAt K mg "_law_section" sSection ["_law_state"] fSE fdSE
  fSH : Addr
  fdSH : FuncData
  DSH : DefAt K mg "_law_shown" sShown ["_law_ground"] fSH fdSH
  fSU : Addr
  fdSU : FuncData
  DSU : DefAt K mg "_law_sum" sSum ["_law_west", "_law_east"] fSU fdSU
theorem scLaw : FnScope ["_law_script", "_law_feed_here", "_law_turn", "_law_pool_here", "_law_count", "_law_wests", "_law_more", "_law_easts", "_law_west", "_law_east", "_law_many", "_law_both", "_law_k"] ["_law_script"] (defScope sLaw) := ⟨rfl, rfl, rfl, by decide +kernel, rfl, by decide +kernel, by decide +kernel⟩
def spLaw (K : PySem.W.Frag) : Sp := fun vs H Q _ => ∃ (a : Addr) (ns : List Int), vs = [.ref a] ∧ SqL K H a (ns.map V.int) ∧ ns.length ≤ 63 ∧ ∀ H', Q (.bl true) H'
set_option maxHeartbeats 8000000 in
theorem ok_law {f fIX : Addr} {fd fdIX : FuncData} (F : Fun K "law" "law" sLaw f fd) (T : Txt mg) (C : ColF K mg) (CI : ColI K C.C) (C2 : OwnQ K C.C "Column.__eq__" sMEq) (Z : SecF K mg) (ZI : ColI K Z.C) (C3 : OwnQ K Z.C "Section.__eq__" sSEq) (Z2 : SecP K Z.C) (Z4 : SecA K Z.C) (D0 : Defs K mg) (DS : SDefs K mg) (DIX : DefAt K mg "is_index" sIsIndex ["value", "count"] fIX fdIX) (M : TooF K mg) (MX : TooX K M.C) (L : LDefs K mg) : FnOk P w K mg base CX0 12 f fd ["_law_script"] (spLaw K) := by
  have DF := L.DF
  have D := L.D
  have DP := L.DP
  have DPO := L.DPO
  have DCL := L.DCL
  have DSE := L.DSE
  have DSH := L.DSH
  have DSU := L.DSU
  have GF : FnOk P w K mg base CX0 1 L.fF L.fdF ["_law_script"] (spFeed K) := ok_feed L.DF.F T
  have GD : FnOk P w K mg base CX0 1 L.fD L.fdD ["_law_feed_here", "_law_many"] spDraw := ok_draw L.D.F T
  have GPl : FnOk P w K mg base CX0 2 L.fP L.fdP ["_law_feed_here", "_law_options"] spPickL := ok_pickL L.DP.F T L.D
  have GPO : FnOk P w K mg base CX0 4 L.fPO L.fdPO ["_law_feed_here"] spPool := ok_pool L.DPO.F T L.D L.DP L.DNM
  have GCL : FnOk P w K mg base CX0 4 L.fCL L.fdCL ["_law_feed_here", "_law_pool_here", "_law_most"] spColumn := ok_column L.DCL.F T L.D L.DP L.DLV L.DLA
  have GSE := ok_section (P := P) (w := w) (base := base) L.DSE.F T C D0 CI Z DS
  have GSH := ok_shown (P := P) (w := w) (base := base) L.DSH.F T C Z
  have GSU := ok_sum0 (P := P) (w := w) (base := base) L.DSU.F C CI Z ZI Z4 T DS M MX L.DSH
  have GAdd := ok_add0 (P := P) (w := w) (base := base) C CI Z ZI Z4 T DS M
  have GmPart := ok_part (P := P) (w := w) (base := base) C CI Z Z2 T DS DIX
  have GEqS := ok_eqS (P := P) (w := w) (base := base) C CI C2 Z ZI C3 T
  refine F.ok scLaw (fun vs H Q E h => ?_) (fun cdv A outer s H vs Q E hr h => ?_)
  · obtain ⟨a, ns, rfl, _⟩ := h
    rfl
  · obtain ⟨a, ns, rfl, ha, hn, q⟩ := h
    have nd := scLaw.nd
    refine ⟨_, (pss_cons (ps_set (i := 1) nd rfl (.inr rfl) (pe_call GF (hr.mono (by decide)) (by rfl) DF.M DF.F.kp DF.B .nil pass0 (pa_cons (pv 0) pa_nil)))
    (pss_cons (ps_for PassesOwn.never rfl (pi_range1 (by rfl) T.range (pa_cons (pe_op op_add pe_int (pe_callB (call_min2 rfl) (by rfl) T.min (by decide +kernel) (pa_cons pe_int (pa_cons (pe_callB call_len_seq (by rfl) T.len (by decide +kernel) (pa_cons (pv 0) pa_nil)) pa_nil)))) pa_nil)) (pg_name (i := 2) nd rfl (.inl rfl))
      (pss_cons (ps_asg (pe_tup (pa_cons (pe_call GPO (hr.mono (by decide)) (by rfl) DPO.M DPO.F.kp DPO.B .nil pass0 (pa_cons (pv 1) pa_nil)) (pa_cons (pe_op op_add pe_int (pe_call GD (hr.mono (by decide)) (by rfl) D.M D.F.kp D.B .nil pass0 (pa_cons (pv 1) (pa_cons pe_int pa_nil)))) pa_nil))) (pg_tup rfl (pgs_cons (pg_name (i := 3) nd rfl (.inr rfl)) (pgs_cons (pg_name (i := 4) nd rfl (.inl rfl)) pgs_nil))))
    (pss_cons (ps_setLc (i := 5) (own := [("_law_k", 12)]) (g := gName 12) rfl nd rfl rfl (sw_true rfl rfl rfl (by decide +kernel)) (pi_range1 (by rfl) T.range (pa_cons (pv 4) pa_nil)) (blkOk_by (own := [("_law_k", 12)]) (N := ["_law_script", "_law_feed_here", "_law_turn", "_law_pool_here", "_law_count", "_law_wests", "_law_more", "_law_easts", "_law_west", "_law_east", "_law_many", "_law_both", "_law_k"]) (sc := defScope sLaw) (by decide +kernel)) (fun _ _ _ _ _ => (pg_name (i := 12) nd rfl (Or.inl rfl))) (fun _ _ _ _ _ => pts_nil) (fun _ _ _ _ _ => (pe_call GCL (hr.mono (by decide)) (by rfl) DCL.M DCL.F.kp DCL.B .nil pass0 (pa_cons (pv 1) (pa_cons (pv 3) (pa_cons pe_int pa_nil))))))
    (pss_cons (ps_set (i := 6) nd rfl (.inl rfl) (pe_call GPl (hr.mono (by decide)) (by rfl) DP.M DP.F.kp DP.B .nil pass0 (pa_cons (pv 1) (pa_cons (pe_lst (pa_cons pe_int (pa_cons (pe_op op_add pe_int (pe_call GD (hr.mono (by decide)) (by rfl) D.M D.F.kp D.B .nil pass0 (pa_cons (pv 1) (pa_cons pe_int pa_nil)))) (pa_cons (pe_op op_sub pe_int (pv 4)) (pa_cons (pe_op op_sub pe_int (pv 4)) (pa_cons (pe_op op_sub pe_int (pv 4)) pa_nil)))))) pa_nil))))
    (pss_cons (ps_setLc (i := 7) (own := [("_law_k", 12)]) (g := gName 12) rfl nd rfl rfl (sw_true rfl rfl rfl (by decide +kernel)) (pi_range1 (by rfl) T.range (pa_cons (pe_callB (call_max2 rfl) (by rfl) T.max (by decide +kernel) (pa_cons pe_int (pa_cons (pv 6) pa_nil))) pa_nil)) (blkOk_by (own := [("_law_k", 12)]) (N := ["_law_script", "_law_feed_here", "_law_turn", "_law_pool_here", "_law_count", "_law_wests", "_law_more", "_law_easts", "_law_west", "_law_east", "_law_many", "_law_both", "_law_k"]) (sc := defScope sLaw) (by decide +kernel)) (fun _ _ _ _ _ => (pg_name (i := 12) nd rfl (Or.inl rfl))) (fun _ _ _ _ _ => pts_nil) (fun _ _ _ _ _ => (pe_call GCL (hr.mono (by decide)) (by rfl) DCL.M DCL.F.kp DCL.B .nil pass0 (pa_cons (pv 1) (pa_cons (pv 3) (pa_cons pe_int pa_nil))))))
    (pss_cons (ps_par (i := 8) (j := 9) (by rfl) nd rfl rfl (by decide) rfl rfl (pa_cons (pe_call GSE (hr.mono (by decide)) (by rfl) DSE.M DSE.F.kp DSE.B .nil pass0 (pa_cons (pv 5) pa_nil)) (pa_cons (pe_call GSE (hr.mono (by decide)) (by rfl) DSE.M DSE.F.kp DSE.B .nil pass0 (pa_cons (pv 7) pa_nil)) pa_nil)) (by rfl))
    (pss_cons (ps_set (i := 10) nd rfl (.inl rfl) (pe_op op_add (pe_callB call_len_seq (by rfl) T.len (by decide +kernel) (pa_cons (pv 5) pa_nil)) (pe_callB call_len_seq (by rfl) T.len (by decide +kernel) (pa_cons (pv 7) pa_nil))))
    (C8.pss_cut (ps_if (pt_cmpR (op_neD hr.units) (pe_call GSU (hr.mono (by decide)) (by rfl) DSU.M DSU.F.kp DSU.B .nil pass0 (pa_cons (pv 8) (pa_cons (pv 9) pa_nil))) (pe_ifExp (pt_cmpR op_le (pv 10) pe_int (nomark _)) (pe_tup (pa_cons pe_str (pa_cons (pe_op op_cat (pv 5) (pv 7)) pa_nil))) (pe_tup (pa_cons pe_str (pa_cons pe_int (pa_cons pe_bl pa_nil))))) (nomark _))
      (pss_one (ps_ret pe_bl))
      pss_nil)
    (C8.pss_cut (ps_if (PW.pt (pw_or (pt_cmpR (op_neD hr.units) (pe_call GSH (hr.mono (by decide)) (by rfl) DSH.M DSH.F.kp DSH.B .nil pass0 (pa_cons (pv 8) pa_nil)) (pv 5) (nomark _)) (pw_or1 (pt_cmpR (op_neD hr.units) (pe_call GSH (hr.mono (by decide)) (by rfl) DSH.M DSH.F.kp DSH.B .nil pass0 (pa_cons (pv 9) pa_nil)) (pv 7) (nomark _)))))
      (pss_one (ps_ret pe_bl))
      pss_nil)
    (pss_one (ps_if (pt_cmpR op_le (pv 10) pe_int (nomark _))
      (pss_cons (ps_set (i := 11) nd rfl (.inl rfl) (pe_op (op_addOwn GAdd (hr.mono (by decide)) Z4.self1 Z4.find Z4.isF Z4.bA pass0) (pv 8) (pv 9)))
    (pss_one (ps_if (PW.pt (pw_or (pt_cmpR (op_neOwn GEqS (hr.mono (by decide)) C3.hNe C3.hEq C3.fEq C3.hObj C3.bEq pass0) (pe_meth (pv 11) Z.cl Z2.mPart GmPart (hr.mono (by decide)) Z2.bPart .nil pass0 (pa_cons pe_int (pa_cons (pe_op op_sub (pe_callB call_len_seq (by rfl) T.len (by decide +kernel) (pa_cons (pv 5) pa_nil)) pe_int) pa_nil))) (pv 8) (nomark _)) (pw_or1 (pt_cmpR (op_neOwn GEqS (hr.mono (by decide)) C3.hNe C3.hEq C3.fEq C3.hObj C3.bEq pass0) (pe_meth (pv 11) Z.cl Z2.mPart GmPart (hr.mono (by decide)) Z2.bPart .nil pass0 (pa_cons (pe_callB call_len_seq (by rfl) T.len (by decide +kernel) (pa_cons (pv 5) pa_nil)) (pa_cons (pe_op op_sub (pv 10) pe_int) pa_nil))) (pv 9) (nomark _)))))
      (pss_one (ps_ret pe_bl))
      pss_nil)))
      pss_nil)))))))))))
    (pss_one (ps_ret pe_bl)))), ?_⟩
    refine ⟨.ref a, rfl, a, ns, rfl, ha, hn, fun d c H1 F1 S1 nd1 => ?_⟩
    have hA : SqL K H1 a (ns.map V.int) := S1.seq ha
    refine ⟨.ref a, rfl, a, _, rfl, .inl hA, _, _, rfl, _, _, rfl, rfl, ?_⟩
    have hb : ∃ m : Nat, m ≤ 12 ∧ (4 : Int) + (if ((ns.map V.int).length : Int) < 8 then ((ns.map V.int).length : Int) else 8) = (m : Int) := by
      by_cases h : ((ns.map V.int).length : Int) < 8
      · rw [if_pos h]
        exact ⟨4 + (ns.map V.int).length, by omega, by omega⟩
      · rw [if_neg h]
        exact ⟨12, by omega, rfl⟩
    obtain ⟨m, hm, em⟩ := hb
    refine ⟨m, em ▸ rfl, by omega, by omega, ?_⟩
    refine for_range (lo := 0) (n := m) (fun i σ Hi => ∃ (n' : Nat) (y2 y3 y4 y5 y6 y7 y8 y9 y10 y11 y12 : Option V), σ = [some (.ref a), some (.ref d), y2, y3, y4, y5, y6, y7, y8, y9, y10, y11, y12] ∧ n' ≤ i * 3000 ∧ Feed Hi d c ns n') ⟨0, none, none, none, none, none, none, none, none, none, none, none, rfl, by omega, F1⟩ ?_ ?_
    · rintro i σ Hi hi ⟨n0, y2, y3, y4, y5, y6, y7, y8, y9, y10, y11, y12, rfl, hn0, Fi⟩
      -- pool, count
      refine ⟨_, rfl, d, c, ns, n0, rfl, Fi, by omega, fun pl zs H2 n2 hpl hz0 hz1 hzw _ hn2 F2 K2 => ?_⟩
      refine ⟨_, rfl, d, c, ns, n2, 12, rfl, F2, by omega, by decide, by decide, fun r H3 n3 r0 r1 hn3 F3 K3 => ⟨_, _, rfl, rfl, (by show 2 ≤ sizeLine; decide), fun tp ntp => ?_⟩⟩
      have hpl3 := F2.kl K3 hpl
      obtain ⟨U4, r4, F4, k4, h4, _⟩ := nu F3 ntp
      rw [r4]
      refine ⟨tp, _, rfl, .inl (.inl (h4 _)), rfl, _, _, rfl, _, _, rfl, rfl, ?_⟩
      have hpl4 := F3.kl (k4 (.tup [.ref pl, .int (1 + r)])) hpl3
      have F4' := F4 (.tup [.ref pl, .int (1 + r)])
      clear r4 k4 h4 F4
      generalize U4 (.tup [.ref pl, .int (1 + r)]) = H4 at hpl4 F4' ⊢
      -- the western columns
      refine ⟨_, rfl, 1 + r, rfl, by omega, by omega, fun W nW => ?_⟩
      refine lc_range (lo := 0) (n := (1 + r).toNat) (fun i Hj => ∃ (n' : Nat) (acc : List V) (cs : List Col), n' ≤ n3 + 40 * i ∧ Feed Hj d c ns n' ∧ Keep d H4 Hj ∧ Hj W = some (.lst acc) ∧ acc.length = i ∧ DVs (fun z => z = d ∨ z = W) Hj acc (cs.map colD) ∧ ∀ co ∈ cs, GoodC co ∧ co.beds.length ≤ 2) ?_ ?_ ?_
      · obtain ⟨U, ru, F, k', h, _⟩ := nu F4' nW
        rw [ru]
        exact ⟨n3, [], [], by omega, F _, k' _, h _, rfl, .nil, fun x hx => nomatch hx⟩
      · rintro j Hj hj ⟨n', acc, cs, hn', Fj, kj, hW, hl, SA, G⟩
        refine ⟨rfl, _, rfl, _, rfl, d, c, ns, n', 2, pl, zs, rfl, Fj, by omega, by omega, F4'.kl kj hpl4, hz0, by omega, hzw, fun H' v co n'' dv Gc hbl hn'' F' K' => ?_⟩
        have hWd : W ≠ d := F4'.nd nW
        have hWc : W ≠ c := F4'.nc nW
        obtain ⟨U, ru, F, k', h, ho⟩ := fu F' nW (fun b o nb nb' e => K' _ _ nb (kj _ _ nb e)) hWd hWc
        refine ⟨_, K' _ _ hWd hW, (by rw [hl]; exact small1000 (by omega)), n'', acc ++ [v], cs ++ [co], by omega, ?_⟩
        rw [ru]
        refine ⟨F _, k' _, h _, by rw [List.length_append, hl]; rfl, ?_, fun x hx => ?_⟩
        · rw [List.map_append]
          refine DVs.append (SA.keep fun b o nb e => ⟨?_, nb⟩) (.cons (dv.keep fun b o nb e => ⟨?_, fun z => nb ?_⟩) .nil)
          · exact Eq.trans (ho _ b fun z => nb (.inr z)) (K' _ _ (fun z => nb (.inl z)) e)
          · exact Eq.trans (ho _ b fun z => nb (by rw [z]; exact old_of hW)) e
          · rcases z with z | z
            · rw [z]; exact Fj.old
            · rw [z]; exact old_of hW
        · rcases List.mem_append.mp hx with hx | hx
          · exact G x hx
          · cases List.mem_singleton.mp hx
            exact ⟨Gc, hbl⟩
      rintro H5 ⟨n5, xw, cw, hn5, F5, k5, hW, hlw, SW, GW⟩
      have hWt := hW
      -- how many eastern ones
      refine ⟨_, rfl, _, rfl, d, c, ns, n5, 12, rfl, F5, by omega, by decide, by decide, fun r2 H6 n6 q0 q1 hn6 F6 K6 => ⟨_, _, rfl, rfl, _, rfl, _, _, rfl, rfl, _, rfl, _, _, rfl, rfl, _, rfl, _, _, rfl, rfl, (by show 5 ≤ sizeLine; decide), fun pp npp => ?_⟩⟩
      obtain ⟨U7, r7, F7, k7, h7, _⟩ := nu F6 npp
      rw [r7]
      refine ⟨d, c, ns, n6, pp, _, rfl, F7 _, by omega, h7 _, (by show 0 < 5; decide), (by show 5 < 1000000; decide), fun x H8 n8 hx hn8 F8 K8 => ?_⟩
      have hx' : ∃ z : Int, x = .int z ∧ z ≤ 12 := by
        simp only [List.mem_cons, List.not_mem_nil, or_false] at hx
        rcases hx with rfl | rfl | rfl | rfl | rfl
        · exact ⟨1, rfl, by omega⟩
        · exact ⟨_, rfl, by omega⟩
        · exact ⟨_, rfl, by omega⟩
        · exact ⟨_, rfl, by omega⟩
        · exact ⟨_, rfl, by omega⟩
      obtain ⟨z, rfl, hz12⟩ := hx'
      have K58 := K6.trans ((k7 _).trans K8)
      have hpl8 := F5.kl K58 (F4'.kl k5 hpl4)
      have hW8 := K58 _ _ (F4'.nd nW) hW
      have SW8 : DVs (fun z => z = d ∨ z = W) H8 xw (cw.map colD) := SW.keep fun b o nb e => ⟨K58 _ _ (fun z => nb (.inl z)) e, nb⟩
      have hn8' : n8 ≤ i * 3000 + 600 := by omega
      clear hW SW k7 h7 F7 r7 K6 K8 K58 hx F6 hWt
      obtain ⟨e, he1, he12, hee⟩ : ∃ e : Int, 1 ≤ e ∧ e ≤ 12 ∧ (if z > 1 then z else 1) = e := by
        by_cases hzz : z > 1
        · rw [if_pos hzz]; exact ⟨z, by omega, hz12, rfl⟩
        · rw [if_neg hzz]; exact ⟨1, by omega, by omega, rfl⟩
      -- the eastern columns
      refine ⟨_, rfl, 1, z, rfl, e, (by show [V.int (if z > 1 then z else 1)] = [V.int e]; rw [hee]), by omega, by omega, fun W2 nW2 => ?_⟩
      refine lc_range (lo := 0) (n := e.toNat) (fun i Hj => ∃ (n' : Nat) (acc : List V) (cs : List Col), n' ≤ n8 + 40 * i ∧ Feed Hj d c ns n' ∧ Keep d H8 Hj ∧ Hj W2 = some (.lst acc) ∧ acc.length = i ∧ DVs (fun z => z = d ∨ z = W2) Hj acc (cs.map colD) ∧ ∀ co ∈ cs, GoodC co ∧ co.beds.length ≤ 2) ?_ ?_ ?_
      · obtain ⟨U, ru, F, k', h, _⟩ := nu F8 nW2
        rw [ru]
        exact ⟨n8, [], [], by omega, F _, k' _, h _, rfl, .nil, fun x hx => nomatch hx⟩
      · rintro j Hj hj ⟨n', acc, cs, hn', Fj, kj, hW, hl, SA, G⟩
        refine ⟨rfl, _, rfl, _, rfl, d, c, ns, n', 2, pl, zs, rfl, Fj, by omega, by omega, F8.kl kj hpl8, hz0, by omega, hzw, fun H' v co n'' dv Gc hbl hn'' F' K' => ?_⟩
        have hWd : W2 ≠ d := F8.nd nW2
        have hWc : W2 ≠ c := F8.nc nW2
        obtain ⟨U, ru, F, k', h, ho⟩ := fu F' nW2 (fun b o nb nb' e => K' _ _ nb (kj _ _ nb e)) hWd hWc
        refine ⟨_, K' _ _ hWd hW, (by rw [hl]; exact small1000 (by omega)), n'', acc ++ [v], cs ++ [co], by omega, ?_⟩
        rw [ru]
        refine ⟨F _, k' _, h _, by rw [List.length_append, hl]; rfl, ?_, fun x hx => ?_⟩
        · rw [List.map_append]
          refine DVs.append (SA.keep fun b o nb e => ⟨?_, nb⟩) (.cons (dv.keep fun b o nb e => ⟨?_, fun z => nb ?_⟩) .nil)
          · exact Eq.trans (ho _ b fun z => nb (.inr z)) (K' _ _ (fun z => nb (.inl z)) e)
          · exact Eq.trans (ho _ b fun z => nb (by rw [z]; exact old_of hW)) e
          · rcases z with z | z
            · rw [z]; exact Fj.old
            · rw [z]; exact old_of hW
        · rcases List.mem_append.mp hx with hx | hx
          · exact G x hx
          · cases List.mem_singleton.mp hx
            exact ⟨Gc, hbl⟩
      rintro H9 ⟨n9, xe, ce, hn9, F9, k9, hE, hle, SE, GE⟩
      have hW9 := k9 _ _ (F4'.nd nW) hW8
      have SW9 : DVs (fun z => z = d ∨ z = W) H9 xw (cw.map colD) := SW8.keep fun b o nb e => ⟨k9 _ _ (fun z => nb (.inl z)) e, nb⟩
      have lw := dvs_len SW9
      have le := dvs_len SE
      have bw : ∀ co ∈ cw, GoodC co ∧ co.beds.length ≤ 900 := fun co h => ⟨(GW co h).1, by have := (GW co h).2; omega⟩
      have be : ∀ co ∈ ce, GoodC co ∧ co.beds.length ≤ 900 := fun co h => ⟨(GE co h).1, by have := (GE co h).2; omega⟩
      clear SW8 hW8 k9
      -- the sections
      refine ⟨_, rfl, W, xw, cw, _, rfl, hW9, SW9, bw, by omega, by omega, fun H10 pw vw A10 s10 => ?_⟩
      have SE10 : DVs (fun z => z = d ∨ z = W2) H10 xe (ce.map colD) := SE.keep fun b o nb e => ⟨s10 _ _ e, nb⟩
      refine ⟨_, rfl, W2, xe, ce, _, rfl, s10 _ _ hE, SE10, be, by omega, by omega, fun H11 pe ve B11 s11 => ⟨_, _, rfl, ?_⟩⟩
      have hW11 := s11 _ _ (s10 _ _ hW9)
      have hE11 := s11 _ _ (s10 _ _ hE)
      have F11 := (F9.same s10).same s11
      have SW11 : DVs (fun _ => False) H11 xw (cw.map colD) := (SW9.keep (Y := fun _ => False) fun b o nb e => ⟨s11 _ _ (s10 _ _ e), fun z => z⟩)
      have SE11 : DVs (fun _ => False) H11 xe (ce.map colD) := SE10.keep fun b o nb e => ⟨s11 _ _ e, fun z => z⟩
      have AA : SecAt Z.C C.C (fun z => z = d) H11 pw vw cw := A10.keep fun b o nb e => ⟨s11 _ _ e, fun z => nb (by rw [z]; exact F9.old)⟩
      have BB : SecAt Z.C C.C (fun z => z = d) H11 pe ve ce := B11.keep fun b o nb e => ⟨e, fun z => nb (by rw [z]; exact (F9.same s10).old)⟩
      have lvw := AA.cs.length
      have lve := BB.cs.length
      have hY : ∀ z, z = d → Old H11 z := fun z e => by rw [e]; exact F11.old
      have bb : ∀ co ∈ cw ++ ce, co.beds.length ≤ 900 := fun co h => (List.mem_append.mp h).elim (fun h => (bw co h).2) fun h => (be co h).2
      -- how many
      have lcw := A10.cs.length
      have lce := B11.cs.length
      have gcw : ∀ c ∈ cw, GoodC c := fun c h => (bw c h).1
      have gce : ∀ c ∈ ce, GoodC c := fun c h => (be c h).1
      obtain ⟨sw1, sw2⟩ := shaped_cols gcw
      obtain ⟨se1, se2⟩ := shaped_cols gce
      obtain ⟨ss1, ss2⟩ := shaped_sum (cs := cw) (ds := ce) fun c h => (List.mem_append.mp h).elim (gcw c) (gce c)
      have hw1 : 1 ≤ cw.length := by omega
      have he1' : 1 ≤ ce.length := by omega
      have ksF : ∀ {Ha Hb : Hp}, Same Ha Hb → ∀ b o, ¬ (fun _ : Addr => False) b → Ha b = some o → Hb b = some o ∧ ¬ (fun _ : Addr => False) b := fun s b o nb e => ⟨s _ _ e, nb⟩
      refine ⟨_, rfl, W, xw, rfl, .inl (.inl (.inl hW11)), _, rfl, W2, xe, rfl, .inl (.inl (.inl hE11)), _, _, rfl, rfl, ?_⟩
      -- the sum
      refine ⟨fun σ H' => σ = [some (.ref a), some (.ref d), some (.int (0 + (i : Int))), some (.ref pl), some (.int (1 + r)), some (.ref W), some (.int z), some (.ref W2), some (.ref pw), some (.ref pe), some (.int ((xw.length : Int) + (xe.length : Int))), y11, y12] ∧ Same H11 H', ?_, ?_⟩
      · refine ⟨_, rfl, _, rfl, pw, pe, vw, ve, cw, ce, _, rfl, AA, BB, hY, by omega, by omega, by omega, bb, fun H12 vs dvs12 s12 => ?_⟩
        have sum_ok : ∀ (H13 : Hp) (v2 : V), Same H12 H13 → DV (fun _ => False) H13 v2 (sumD cw ce) → (∃ d e, Dp K H13 vs d ∧ Dp K H13 v2 e ∧ SeqAt.shaped d = true ∧ SeqAt.shaped e = true ∧ (!PyData.eqv d e) = false) := by
          intro H13 v2 s13 dv
          refine ⟨sumD cw ce, sumD cw ce, (dvs12.keep (ksF s13)).dp ss2, dv.dp ss2, ss1, ss1, ?_⟩
          rw [SeqAt.eqv_refl _ (SeqAt.canLay_of_shaped ss1)]
          rfl
        have hW12 := s12 _ _ hW11
        have hE12 := s12 _ _ hE11
        have SW12 := SW11.keep (ksF s12)
        have SE12 := SE11.keep (ksF s12)
        refine ⟨_, rfl, _, _, rfl, rfl, _, rfl, ?_⟩
        by_cases h12 : xw.length + xe.length ≤ 12
        · rw [decide_eq_true (show (xw.length : Int) + (xe.length : Int) ≤ 12 by omega)]
          refine iteT ⟨.ref W, rfl, .ref W2, rfl, W, W2, xw, xe, rfl, rfl, hW12, hE12, (by rw [sizeLine_eq]; omega), fun l nl => ⟨(by show 2 ≤ sizeLine; decide), fun t nt => ?_⟩⟩
          have s1 := new_same (o := .lst (xw ++ xe)) nl
          have s2 := new_same (o := .tup [.str "made", .ref l]) nt
          have dv2 : DV (fun _ => False) (upd (upd H12 l (.lst (xw ++ xe))) t (.tup [.str "made", .ref l])) (.ref t) (sumD cw ce) := by
            unfold sumD
            rw [if_pos (by omega), List.map_append]
            exact .tup (fun z => z) upd_same (.cons (.str _) (.cons (.lst (fun z => z) (s2 _ _ upd_same) (DVs.append (SW12.keep (ksF (s1.trans s2))) (SE12.keep (ksF (s1.trans s2))))) .nil))
          obtain ⟨d1, e1, q1, q2, q3, q4, q5⟩ := sum_ok _ _ (s1.trans s2) dv2
          refine ⟨d1, e1, q1, q2, q3, q4, _, rfl, ?_⟩
          rw [q5]
          exact iteF ⟨rfl, s12.trans (s1.trans s2)⟩
        · rw [decide_eq_false (show ¬ (xw.length : Int) + (xe.length : Int) ≤ 12 by omega)]
          refine iteF ⟨(by show 3 ≤ sizeLine; decide), fun t nt => ?_⟩
          have s2 := new_same (o := .tup [.str "many", .int 12, .bl true]) nt
          have dv2 : DV (fun _ => False) (upd H12 t (.tup [.str "many", .int 12, .bl true])) (.ref t) (sumD cw ce) := by
            unfold sumD
            rw [if_neg (by omega)]
            exact .tup (fun z => z) upd_same (.cons (.str _) (.cons (.int _) (.cons (.bl _) .nil)))
          obtain ⟨d1, e1, q1, q2, q3, q4, q5⟩ := sum_ok _ _ s2 dv2
          refine ⟨d1, e1, q1, q2, q3, q4, _, rfl, ?_⟩
          rw [q5]
          exact iteF ⟨rfl, s12.trans s2⟩
      rintro σ H13 ⟨rfl, s13⟩
      -- both sections stay
      refine ⟨fun σ H' => σ = [some (.ref a), some (.ref d), some (.int (0 + (i : Int))), some (.ref pl), some (.int (1 + r)), some (.ref W), some (.int z), some (.ref W2), some (.ref pw), some (.ref pe), some (.int ((xw.length : Int) + (xe.length : Int))), y11, y12] ∧ Same H11 H', ?_, ?_⟩
      · have AA13 : SecAt Z.C C.C (fun z => z = d) H13 pw vw cw := AA.keep fun b o nb e => ⟨s13 _ _ e, nb⟩
        refine ⟨_, rfl, pw, vw, cw, _, rfl, AA13, fun c h => (bw c h).2, by omega, fun H14 l zs hl S nol s14 => ⟨.ref W, rfl, .list (cw.map colD), .list (cw.map colD), .lst (.inl (.inl hl)) (S.dp ?_), .lst (.inl (.inl (s14 _ _ (s13 _ _ hW11)))) ((SW11.keep (ksF (s13.trans s14))).dp ?_), sw1, sw1, _, rfl, ?_⟩⟩
        · exact (cols_lay gcw).2.2
        · exact (cols_lay gcw).2.2
        rw [SeqAt.eqv_refl _ (SeqAt.canLay_of_shaped sw1)]
        have BB14 : SecAt Z.C C.C (fun z => z = d) H14 pe ve ce := BB.keep fun b o nb e => ⟨s14 _ _ (s13 _ _ e), nb⟩
        refine iteF ⟨_, rfl, pe, ve, ce, _, rfl, BB14, fun c h => (be c h).2, by omega, fun H15 l2 zs2 hl2 S2 nol2 s15 => ⟨.ref W2, rfl, .list (ce.map colD), .list (ce.map colD), .lst (.inl (.inl hl2)) (S2.dp ?_), .lst (.inl (.inl (s15 _ _ (s14 _ _ (s13 _ _ hE11))))) ((SE11.keep (ksF (s13.trans (s14.trans s15)))).dp ?_), se1, se1, _, rfl, ?_⟩⟩
        · exact (cols_lay gce).2.2
        · exact (cols_lay gce).2.2
        rw [SeqAt.eqv_refl _ (SeqAt.canLay_of_shaped se1)]
        exact iteF ⟨rfl, s13.trans (s14.trans s15)⟩
      rintro σ H16 ⟨rfl, s16⟩
      have fin : ∀ (H' : Hp) (u11 u12 : Option V), Same H11 H' → ∃ (n' : Nat) (y2 y3 y4 y5 y6 y7 y8 y9 y10 y11 y12 : Option V), [some (V.ref a), some (V.ref d), some (V.int (0 + (i : Int))), some (V.ref pl), some (V.int (1 + r)), some (V.ref W), some (V.int z), some (V.ref W2), some (V.ref pw), some (V.ref pe), some (V.int ((xw.length : Int) + (xe.length : Int))), u11, u12] = [some (V.ref a), some (V.ref d), y2, y3, y4, y5, y6, y7, y8, y9, y10, y11, y12] ∧ n' ≤ (i + 1) * 3000 ∧ Feed H' d c ns n' :=
        fun H' u11 u12 s' => ⟨n9, _, _, _, _, _, _, _, _, _, _, _, rfl, by omega, F11.same s'⟩
      refine ⟨_, rfl, _, _, rfl, rfl, _, rfl, ?_⟩
      by_cases h12 : xw.length + xe.length ≤ 12
      · rw [decide_eq_true (show (xw.length : Int) + (xe.length : Int) ≤ 12 by omega)]
        have A16 : SecAt Z.C C.C (fun z => z = d) H16 pw vw cw := AA.keep fun b o nb e => ⟨s16 _ _ e, nb⟩
        have B16 : SecAt Z.C C.C (fun z => z = d) H16 pe ve ce := BB.keep fun b o nb e => ⟨s16 _ _ e, nb⟩
        have hY16 : ∀ z, z = d → Old H16 z := fun z e => same_old s16 (hY z e)
        obtain ⟨⟨dx, t1, hp1, _, _⟩, _, _⟩ := id A16
        obtain ⟨⟨dx2, t2, hp2, _, _⟩, _, _⟩ := id B16
        refine iteT ⟨_, rfl, _, rfl, pw, pe, dx, dx2, _, _, rfl, rfl, hp1, hp2, pw, pe, vw, ve, cw, ce, _, rfl, A16, B16, hY16, by omega, by omega, by omega, fun H17 pb A17 s17 => ⟨⟨pb, rfl⟩, ?_⟩⟩
        have hY17 : ∀ z, z = d → Old H17 z := fun z e => same_old s17 (hY16 z e)
        obtain ⟨⟨dx3, t3, hp3, _, _⟩, _, _⟩ := id A17
        have W17 := s17 _ _ (s16 _ _ hW11)
        have A17' : SecAt Z.C C.C (fun z => z = d) H17 pw vw cw := A16.keep fun b o nb e => ⟨s17 _ _ e, nb⟩
        have B17' : SecAt Z.C C.C (fun z => z = d) H17 pe ve ce := B16.keep fun b o nb e => ⟨s17 _ _ e, nb⟩
        have lall : (cw ++ ce).length = cw.length + ce.length := List.length_append
        have c1 : ((cw ++ ce).drop 0).take (xw.length - 1 + 1 - 0) = cw := by
          rw [List.drop_zero, show xw.length - 1 + 1 - 0 = cw.length by omega, List.take_left]
        have c2 : ((cw ++ ce).drop xw.length).take (xw.length + xe.length - 1 + 1 - xw.length) = ce := by
          rw [show xw.length = cw.length by omega, List.drop_left]
          exact List.take_of_length_le (by omega)
        refine ⟨_, rfl, pb, dx3, _, rfl, hp3, rfl, _, rfl, W, xw, rfl, .inl (.inl (.inl W17)), _, _, rfl, rfl, ?_⟩
        refine ⟨pb, 0, xw.length - 1, vw ++ ve, cw ++ ce, _, (by rw [show ((xw.length - 1 : Nat) : Int) = (xw.length : Int) - 1 by omega]; rfl), A17, hY17, by omega, by omega, by omega, fun H18 p18 A18 s18 => ?_⟩
        rw [c1] at A18
        obtain ⟨⟨dx4, t4, hp4, _, _⟩, _, _⟩ := id A18
        have A18' := A17'.keep (Y := fun _ => False) fun b o nb e => ⟨s18 _ _ e, fun z => z⟩
        have B18' := B17'.keep (Y := fun _ => False) fun b o nb e => ⟨s18 _ _ e, fun z => z⟩
        refine ⟨_, rfl, p18, pw, dx4, dx, _, _, rfl, rfl, hp4, s18 _ _ (s17 _ _ hp1), p18, pw, rfl, ⟨cw, _, vw, A18.keep (fun b o nb e => ⟨e, fun z => z⟩), A18', gcw⟩, fun H19 e19 => ⟨true, rfl, _, rfl, iteF ?_⟩⟩
        have s19 : Same H18 H19 := e19
        have A19 : SecAt Z.C C.C (fun z => z = d) H19 pb (vw ++ ve) (cw ++ ce) := A17.keep fun b o nb e => ⟨s19 _ _ (s18 _ _ e), nb⟩
        have hY19 : ∀ z, z = d → Old H19 z := fun z e => same_old s19 (same_old s18 (hY17 z e))
        refine ⟨_, rfl, pb, dx3, _, rfl, s19 _ _ (s18 _ _ hp3), rfl, _, rfl, W, xw, rfl, .inl (.inl (.inl (s19 _ _ (s18 _ _ W17)))), _, rfl, _, _, rfl, rfl, ?_⟩
        refine ⟨pb, xw.length, xw.length + xe.length - 1, vw ++ ve, cw ++ ce, _, (by rw [show ((xw.length + xe.length - 1 : Nat) : Int) = (xw.length : Int) + (xe.length : Int) - 1 by omega]; rfl), A19, hY19, by omega, by omega, by omega, fun H20 p20 A20 s20 => ?_⟩
        rw [c2] at A20
        obtain ⟨⟨dx5, t5, hp5, _, _⟩, _, _⟩ := id A20
        have B20' := B18'.keep (Y := fun _ => False) fun b o nb e => ⟨s20 _ _ (s19 _ _ e), fun z => z⟩
        obtain ⟨⟨dx6, t6, hp6, _, _⟩, _, _⟩ := id B20'
        refine ⟨_, rfl, p20, pe, dx5, dx6, _, _, rfl, rfl, hp5, hp6, p20, pe, rfl, ⟨ce, _, ve, A20.keep (fun b o nb e => ⟨e, fun z => z⟩), B20', gce⟩, fun H21 e21 => ⟨true, rfl, _, rfl, iteF ?_⟩⟩
        have s21 : Same H20 H21 := e21
        exact fin H21 _ _ (s16.trans (s17.trans (s18.trans (s19.trans (s20.trans s21)))))
      · rw [decide_eq_false (show ¬ (xw.length : Int) + (xe.length : Int) ≤ 12 by omega)]
        exact iteF (fin H16 y11 y12 s16)
    · rintro σ Hi ⟨n', y2, y3, y4, y5, y6, y7, y8, y9, y10, y11, y12, rfl, _, _⟩
      exact q Hi
end
set_option maxHeartbeats 8000000 in
theorem all_mk {l : PySem.W.OpenLaw} {w : World} {K : PySem.W.Frag} {h : Heap} {mg : Str → Option Value} {fa : Addr} (X : K.In h) (G : h.Ns mainGlobals mg) (hfa : mg "law" = some (.ref fa))
    {f0 f1 f2 f3 f4 f5 f6 f7 f8 f9 f10 f11 f12 f13 f14 f15 f16 f17 f18 f19 f20 f21 f22 f23 aC aT aK aT0 fI pp1 fp1 pp2 fp2 pp3 fp3 pp4 fp4 fQ aZ fIZ pp5 fp5 fS fm1 fA aM NM fIM : Addr}
    {od0 an0 od1 an1 od2 an2 od3 an3 od4 an4 od5 an5 od6 an6 od7 an7 od8 an8 od9 an9 od10 an10 od11 an11 od12 an12 od13 an13 od14 an14 od15 an15 od16 an16 od17 an17 od18 an18 od19 an19 od20 an20 od21 an21 od22 an22 od23 an23 odI anI odT odT0 odp1 anp1 odp2 anp2 odp3 anp3 odp4 anp4 odQ anQ odIZ anIZ odp5 anp5 odS anS odm1 anm1 odA anA ddM odIM anIM : Option Addr}
    {sl0 sl1 sl2 sl3 sl4 sl5 sl6 sl7 sl8 sl9 sl10 sl11 sl12 sl13 sl14 sl15 sl16 sl17 sl18 sl19 sl20 sl21 sl22 sl23 slI slT slT0 slp1 slp2 slp3 slp4 slQ slIZ slp5 slS slm1 slA slIM : Array (Option Value)}
    {oc0 dc0 pm0 cd0 ct0 kV0 oc1 dc1 pm1 cd1 ct1 kV1 oc2 dc2 pm2 cd2 ct2 kV2 oc3 dc3 pm3 cd3 ct3 kV3 oc4 dc4 pm4 cd4 ct4 kV4 oc5 dc5 pm5 cd5 ct5 kV5 oc6 dc6 pm6 cd6 ct6 kV6 oc7 dc7 pm7 cd7 ct7 kV7 oc8 dc8 pm8 cd8 ct8 kV8 oc9 dc9 pm9 cd9 ct9 kV9 oc10 dc10 pm10 cd10 ct10 kV10 oc11 dc11 pm11 cd11 ct11 kV11 oc12 dc12 pm12 cd12 ct12 kV12 oc13 dc13 pm13 cd13 ct13 kV13 oc14 dc14 pm14 cd14 ct14 kV14 oc15 dc15 pm15 cd15 ct15 kV15 oc16 dc16 pm16 cd16 ct16 kV16 oc17 dc17 pm17 cd17 ct17 kV17 oc18 dc18 pm18 cd18 ct18 kV18 oc19 dc19 pm19 cd19 ct19 kV19 oc20 dc20 pm20 cd20 ct20 kV20 oc21 dc21 pm21 cd21 ct21 kV21 oc22 dc22 pm22 cd22 ct22 kV22 oc23 dc23 pm23 cd23 ct23 kV23 ocI dcI pmI cdI ctI ocT ocp1 dcp1 pmp1 cdp1 ctp1 kVp1 ocp2 dcp2 pmp2 cdp2 ctp2 kVp2 ocp3 dcp3 pmp3 cdp3 ctp3 kVp3 ocp4 dcp4 pmp4 cdp4 ctp4 kVp4 ocQ dcQ pmQ cdQ ctQ kVQ ocIZ dcIZ pmIZ cdIZ ctIZ kVIZ ocp5 dcp5 pmp5 cdp5 ctp5 kVp5 ocS dcS pmS cdS ctS kVS ocm1 dcm1 pmm1 cdm1 ctm1 kVm1 ocA dcA pmA cdA ctA kVA ocIM dcIM pmIM cdIM ctIM kVIM : Value}
    {tLONGEST_NAME tZ tM : Tok}
    {nT nT0 : Nat}
    {rs1 rs2 rs3 rs4 rs5 bsM subM : List Value}
    {nmM qM : Str}
    {snM : List Str}
    {abM : Bool}
    {colM : Option Bool}
    {m0 m1 m2 m3 m5 : Option Value}
    (a0 : PySem.W.nsIn K mainGlobals "is_name" = some (some (.ref f0)))
    (l0 : K.lookup f0 = some ⟨oc0, od0, .func (PySem.W.fnOf "is_name" "is_name" (defArgs sIsName) (defBody sIsName) (defScope sIsName) .none kV0 dc0 pm0 an0 cd0 ct0), sl0⟩)
    (c0 : PySem.W.codeIn K cd0 "is_name" = true)
    (k0 : PySem.W.keepIn K (.ref f0) = true)
    (a1 : PySem.W.nsIn K mainGlobals "is_level" = some (some (.ref f1)))
    (l1 : K.lookup f1 = some ⟨oc1, od1, .func (PySem.W.fnOf "is_level" "is_level" (defArgs sIsLevel) (defBody sIsLevel) (defScope sIsLevel) .none kV1 dc1 pm1 an1 cd1 ct1), sl1⟩)
    (c1 : PySem.W.codeIn K cd1 "is_level" = true)
    (k1 : PySem.W.keepIn K (.ref f1) = true)
    (a2 : PySem.W.nsIn K mainGlobals "is_index" = some (some (.ref f2)))
    (l2 : K.lookup f2 = some ⟨oc2, od2, .func (PySem.W.fnOf "is_index" "is_index" (defArgs sIsIndex) (defBody sIsIndex) (defScope sIsIndex) .none kV2 dc2 pm2 an2 cd2 ct2), sl2⟩)
    (c2 : PySem.W.codeIn K cd2 "is_index" = true)
    (k2 : PySem.W.keepIn K (.ref f2) = true)
    (a3 : PySem.W.nsIn K mainGlobals "need_name" = some (some (.ref f3)))
    (l3 : K.lookup f3 = some ⟨oc3, od3, .func (PySem.W.fnOf "need_name" "need_name" (defArgs sNeedName) (defBody sNeedName) (defScope sNeedName) .none kV3 dc3 pm3 an3 cd3 ct3), sl3⟩)
    (c3 : PySem.W.codeIn K cd3 "need_name" = true)
    (k3 : PySem.W.keepIn K (.ref f3) = true)
    (a4 : PySem.W.nsIn K mainGlobals "need_level" = some (some (.ref f4)))
    (l4 : K.lookup f4 = some ⟨oc4, od4, .func (PySem.W.fnOf "need_level" "need_level" (defArgs sNeedLevel) (defBody sNeedLevel) (defScope sNeedLevel) .none kV4 dc4 pm4 an4 cd4 ct4), sl4⟩)
    (c4 : PySem.W.codeIn K cd4 "need_level" = true)
    (k4 : PySem.W.keepIn K (.ref f4) = true)
    (a5 : PySem.W.nsIn K mainGlobals "need_name_or_none" = some (some (.ref f5)))
    (l5 : K.lookup f5 = some ⟨oc5, od5, .func (PySem.W.fnOf "need_name_or_none" "need_name_or_none" (defArgs sNeedNameOrNone) (defBody sNeedNameOrNone) (defScope sNeedNameOrNone) .none kV5 dc5 pm5 an5 cd5 ct5), sl5⟩)
    (c5 : PySem.W.codeIn K cd5 "need_name_or_none" = true)
    (k5 : PySem.W.keepIn K (.ref f5) = true)
    (a6 : PySem.W.nsIn K mainGlobals "is_bed" = some (some (.ref f6)))
    (l6 : K.lookup f6 = some ⟨oc6, od6, .func (PySem.W.fnOf "is_bed" "is_bed" (defArgs sIsBed) (defBody sIsBed) (defScope sIsBed) .none kV6 dc6 pm6 an6 cd6 ct6), sl6⟩)
    (c6 : PySem.W.codeIn K cd6 "is_bed" = true)
    (k6 : PySem.W.keepIn K (.ref f6) = true)
    (a7 : PySem.W.nsIn K mainGlobals "merges" = some (some (.ref f7)))
    (l7 : K.lookup f7 = some ⟨oc7, od7, .func (PySem.W.fnOf "merges" "merges" (defArgs sMerges) (defBody sMerges) (defScope sMerges) .none kV7 dc7 pm7 an7 cd7 ct7), sl7⟩)
    (c7 : PySem.W.codeIn K cd7 "merges" = true)
    (k7 : PySem.W.keepIn K (.ref f7) = true)
    (a8 : PySem.W.nsIn K mainGlobals "are_beds" = some (some (.ref f8)))
    (l8 : K.lookup f8 = some ⟨oc8, od8, .func (PySem.W.fnOf "are_beds" "are_beds" (defArgs sAreBeds) (defBody sAreBeds) (defScope sAreBeds) .none kV8 dc8 pm8 an8 cd8 ct8), sl8⟩)
    (c8 : PySem.W.codeIn K cd8 "are_beds" = true)
    (k8 : PySem.W.keepIn K (.ref f8) = true)
    (a9 : PySem.W.nsIn K mainGlobals "is_width" = some (some (.ref f9)))
    (l9 : K.lookup f9 = some ⟨oc9, od9, .func (PySem.W.fnOf "is_width" "is_width" (defArgs sIsWidth) (defBody sIsWidth) (defScope sIsWidth) .none kV9 dc9 pm9 an9 cd9 ct9), sl9⟩)
    (c9 : PySem.W.codeIn K cd9 "is_width" = true)
    (k9 : PySem.W.keepIn K (.ref f9) = true)
    (a10 : PySem.W.nsIn K mainGlobals "are_columns" = some (some (.ref f10)))
    (l10 : K.lookup f10 = some ⟨oc10, od10, .func (PySem.W.fnOf "are_columns" "are_columns" (defArgs sAreColumns) (defBody sAreColumns) (defScope sAreColumns) .none kV10 dc10 pm10 an10 cd10 ct10), sl10⟩)
    (c10 : PySem.W.codeIn K cd10 "are_columns" = true)
    (k10 : PySem.W.keepIn K (.ref f10) = true)
    (a11 : PySem.W.nsIn K mainGlobals "copied" = some (some (.ref f11)))
    (l11 : K.lookup f11 = some ⟨oc11, od11, .func (PySem.W.fnOf "copied" "copied" (defArgs sCopied) (defBody sCopied) (defScope sCopied) .none kV11 dc11 pm11 an11 cd11 ct11), sl11⟩)
    (c11 : PySem.W.codeIn K cd11 "copied" = true)
    (k11 : PySem.W.keepIn K (.ref f11) = true)
    (a12 : PySem.W.nsIn K mainGlobals "_law_feed" = some (some (.ref f12)))
    (l12 : K.lookup f12 = some ⟨oc12, od12, .func (PySem.W.fnOf "_law_feed" "_law_feed" (defArgs sFeed) (defBody sFeed) (defScope sFeed) .none kV12 dc12 pm12 an12 cd12 ct12), sl12⟩)
    (c12 : PySem.W.codeIn K cd12 "_law_feed" = true)
    (k12 : PySem.W.keepIn K (.ref f12) = true)
    (a13 : PySem.W.nsIn K mainGlobals "_law_draw" = some (some (.ref f13)))
    (l13 : K.lookup f13 = some ⟨oc13, od13, .func (PySem.W.fnOf "_law_draw" "_law_draw" (defArgs sDraw) (defBody sDraw) (defScope sDraw) .none kV13 dc13 pm13 an13 cd13 ct13), sl13⟩)
    (c13 : PySem.W.codeIn K cd13 "_law_draw" = true)
    (k13 : PySem.W.keepIn K (.ref f13) = true)
    (a14 : PySem.W.nsIn K mainGlobals "_law_pick" = some (some (.ref f14)))
    (l14 : K.lookup f14 = some ⟨oc14, od14, .func (PySem.W.fnOf "_law_pick" "_law_pick" (defArgs sPick) (defBody sPick) (defScope sPick) .none kV14 dc14 pm14 an14 cd14 ct14), sl14⟩)
    (c14 : PySem.W.codeIn K cd14 "_law_pick" = true)
    (k14 : PySem.W.keepIn K (.ref f14) = true)
    (a15 : PySem.W.nsIn K mainGlobals "_law_names" = some (some (.ref f15)))
    (l15 : K.lookup f15 = some ⟨oc15, od15, .func (PySem.W.fnOf "_law_names" "_law_names" (defArgs sNames) (defBody sNames) (defScope sNames) .none kV15 dc15 pm15 an15 cd15 ct15), sl15⟩)
    (c15 : PySem.W.codeIn K cd15 "_law_names" = true)
    (k15 : PySem.W.keepIn K (.ref f15) = true)
    (a16 : PySem.W.nsIn K mainGlobals "_law_level" = some (some (.ref f16)))
    (l16 : K.lookup f16 = some ⟨oc16, od16, .func (PySem.W.fnOf "_law_level" "_law_level" (defArgs sLevel) (defBody sLevel) (defScope sLevel) .none kV16 dc16 pm16 an16 cd16 ct16), sl16⟩)
    (c16 : PySem.W.codeIn K cd16 "_law_level" = true)
    (k16 : PySem.W.keepIn K (.ref f16) = true)
    (a17 : PySem.W.nsIn K mainGlobals "_law_section" = some (some (.ref f17)))
    (l17 : K.lookup f17 = some ⟨oc17, od17, .func (PySem.W.fnOf "_law_section" "_law_section" (defArgs sSection) (defBody sSection) (defScope sSection) .none kV17 dc17 pm17 an17 cd17 ct17), sl17⟩)
    (c17 : PySem.W.codeIn K cd17 "_law_section" = true)
    (k17 : PySem.W.keepIn K (.ref f17) = true)
    (a18 : PySem.W.nsIn K mainGlobals "_law_shown" = some (some (.ref f18)))
    (l18 : K.lookup f18 = some ⟨oc18, od18, .func (PySem.W.fnOf "_law_shown" "_law_shown" (defArgs sShown) (defBody sShown) (defScope sShown) .none kV18 dc18 pm18 an18 cd18 ct18), sl18⟩)
    (c18 : PySem.W.codeIn K cd18 "_law_shown" = true)
    (k18 : PySem.W.keepIn K (.ref f18) = true)
    (a19 : PySem.W.nsIn K mainGlobals "_law_pool" = some (some (.ref f19)))
    (l19 : K.lookup f19 = some ⟨oc19, od19, .func (PySem.W.fnOf "_law_pool" "_law_pool" (defArgs sPool) (defBody sPool) (defScope sPool) .none kV19 dc19 pm19 an19 cd19 ct19), sl19⟩)
    (c19 : PySem.W.codeIn K cd19 "_law_pool" = true)
    (k19 : PySem.W.keepIn K (.ref f19) = true)
    (a20 : PySem.W.nsIn K mainGlobals "_law_layers" = some (some (.ref f20)))
    (l20 : K.lookup f20 = some ⟨oc20, od20, .func (PySem.W.fnOf "_law_layers" "_law_layers" (defArgs sLayers) (defBody sLayers) (defScope sLayers) .none kV20 dc20 pm20 an20 cd20 ct20), sl20⟩)
    (c20 : PySem.W.codeIn K cd20 "_law_layers" = true)
    (k20 : PySem.W.keepIn K (.ref f20) = true)
    (a21 : PySem.W.nsIn K mainGlobals "_law_column" = some (some (.ref f21)))
    (l21 : K.lookup f21 = some ⟨oc21, od21, .func (PySem.W.fnOf "_law_column" "_law_column" (defArgs sColumn) (defBody sColumn) (defScope sColumn) .none kV21 dc21 pm21 an21 cd21 ct21), sl21⟩)
    (c21 : PySem.W.codeIn K cd21 "_law_column" = true)
    (k21 : PySem.W.keepIn K (.ref f21) = true)
    (a22 : PySem.W.nsIn K mainGlobals "_law_sum" = some (some (.ref f22)))
    (l22 : K.lookup f22 = some ⟨oc22, od22, .func (PySem.W.fnOf "_law_sum" "_law_sum" (defArgs sSum) (defBody sSum) (defScope sSum) .none kV22 dc22 pm22 an22 cd22 ct22), sl22⟩)
    (c22 : PySem.W.codeIn K cd22 "_law_sum" = true)
    (k22 : PySem.W.keepIn K (.ref f22) = true)
    (a23 : PySem.W.nsIn K mainGlobals "law" = some (some (.ref f23)))
    (l23 : K.lookup f23 = some ⟨oc23, od23, .func (PySem.W.fnOf "law" "law" (defArgs sLaw) (defBody sLaw) (defScope sLaw) .none kV23 dc23 pm23 an23 cd23 ct23), sl23⟩)
    (c23 : PySem.W.codeIn K cd23 "law" = true)
    (k23 : PySem.W.keepIn K (.ref f23) = true)
    (z_int : PySem.W.nsIn K mainGlobals "int" = some none)
    (z_len : PySem.W.nsIn K mainGlobals "len" = some none)
    (z_abs : PySem.W.nsIn K mainGlobals "abs" = some none)
    (z_range : PySem.W.nsIn K mainGlobals "range" = some none)
    (z_tuple : PySem.W.nsIn K mainGlobals "tuple" = some none)
    (z_list : PySem.W.nsIn K mainGlobals "list" = some none)
    (z_str : PySem.W.nsIn K mainGlobals "str" = some none)
    (z_bool : PySem.W.nsIn K mainGlobals "bool" = some none)
    (z_isinstance : PySem.W.nsIn K mainGlobals "isinstance" = some none)
    (z_all : PySem.W.nsIn K mainGlobals "all" = some none)
    (z_any : PySem.W.nsIn K mainGlobals "any" = some none)
    (z_min : PySem.W.nsIn K mainGlobals "min" = some none)
    (z_sum : PySem.W.nsIn K mainGlobals "sum" = some none)
    (z_zip : PySem.W.nsIn K mainGlobals "zip" = some none)
    (z_max : PySem.W.nsIn K mainGlobals "max" = some none)
    (z_dict : PySem.W.nsIn K mainGlobals "dict" = some none)
    (z_OverflowError : PySem.W.nsIn K mainGlobals "OverflowError" = some none)
    (zLONGEST_NAME : PySem.W.nsIn K mainGlobals "LONGEST_NAME" = some (some (.int 8 tLONGEST_NAME)))
    (zaC : PySem.W.nsIn K mainGlobals "Column" = some (some (.ref aC)))
    (pgaC : PySem.W.plainGet K aC Str.empty = true)
    (hdaC : PySem.W.hasDictIn K aC = true)
    (poaC : PySem.W.plainOver K aC = true)
    (saaC : PySem.W.findIn K (.ref aC) "__setattr__" = some (some (.builtin "object.__setattr__")))
    (mkaC : PySem.W.makesIn K aC = true)
    (kcaC : PySem.W.keepIn K (.ref aC) = true)
    (naC_foot : PySem.W.findIn K (.ref aC) "_foot" = some none)
    (naC_beds : PySem.W.findIn K (.ref aC) "_beds" = some none)
    (naC_root : PySem.W.findIn K (.ref aC) "_root" = some none)
    (naC_mark : PySem.W.findIn K (.ref aC) "_mark" = some none)
    (aI : PySem.W.findIn K (.ref aC) "__init__" = some (some (.ref fI)))
    (iI : PySem.W.isFn K (.ref fI) = true)
    (lI : K.lookup fI = some ⟨ocI, odI, .func (PySem.W.fnOf "__init__" "Column.__init__" (defArgs sInit) (defBody sInit) (defScope sInit) (.ref aT) (.ref aK) dcI pmI anI cdI ctI), slI⟩)
    (cI : PySem.W.codeIn K cdI "Column.__init__" = true)
    (kI : PySem.W.keepIn K (.ref fI) = true)
    (lT : K.lookup aT = some ⟨ocT, odT, .seq [Value.int 0 tZ, .ref aT0].toArray nT, slT⟩)
    (lT0 : K.lookup aT0 = some ⟨.type "tuple", odT0, .seq #[] nT0, slT0⟩)
    (kR : PySem.W.nsIn K aK "root" = some (some .none))
    (kM : PySem.W.nsIn K aK "mark" = some (some .none))
    (pa1 : PySem.W.findIn K (.ref aC) "foot" = some (some (.ref pp1)))
    (pb1 : PySem.W.specialIn K (.ref pp1) "__get__" = some (some (.builtin "property.__get__")))
    (pc1 : PySem.W.takesIn K (.ref pp1) = some true)
    (pd1 : PySem.W.recIn K pp1 "property" = some (.ref fp1 :: rs1))
    (lp1 : K.lookup fp1 = some ⟨ocp1, odp1, .func (PySem.W.fnOf "foot" "Column.foot" (defArgs sPFoot) (defBody sPFoot) (defScope sPFoot) .none kVp1 dcp1 pmp1 anp1 cdp1 ctp1), slp1⟩)
    (cp1 : PySem.W.codeIn K cdp1 "Column.foot" = true)
    (kp1 : PySem.W.keepIn K (.ref fp1) = true)
    (pa2 : PySem.W.findIn K (.ref aC) "beds" = some (some (.ref pp2)))
    (pb2 : PySem.W.specialIn K (.ref pp2) "__get__" = some (some (.builtin "property.__get__")))
    (pc2 : PySem.W.takesIn K (.ref pp2) = some true)
    (pd2 : PySem.W.recIn K pp2 "property" = some (.ref fp2 :: rs2))
    (lp2 : K.lookup fp2 = some ⟨ocp2, odp2, .func (PySem.W.fnOf "beds" "Column.beds" (defArgs sPBeds) (defBody sPBeds) (defScope sPBeds) .none kVp2 dcp2 pmp2 anp2 cdp2 ctp2), slp2⟩)
    (cp2 : PySem.W.codeIn K cdp2 "Column.beds" = true)
    (kp2 : PySem.W.keepIn K (.ref fp2) = true)
    (pa3 : PySem.W.findIn K (.ref aC) "root" = some (some (.ref pp3)))
    (pb3 : PySem.W.specialIn K (.ref pp3) "__get__" = some (some (.builtin "property.__get__")))
    (pc3 : PySem.W.takesIn K (.ref pp3) = some true)
    (pd3 : PySem.W.recIn K pp3 "property" = some (.ref fp3 :: rs3))
    (lp3 : K.lookup fp3 = some ⟨ocp3, odp3, .func (PySem.W.fnOf "root" "Column.root" (defArgs sPRoot) (defBody sPRoot) (defScope sPRoot) .none kVp3 dcp3 pmp3 anp3 cdp3 ctp3), slp3⟩)
    (cp3 : PySem.W.codeIn K cdp3 "Column.root" = true)
    (kp3 : PySem.W.keepIn K (.ref fp3) = true)
    (pa4 : PySem.W.findIn K (.ref aC) "mark" = some (some (.ref pp4)))
    (pb4 : PySem.W.specialIn K (.ref pp4) "__get__" = some (some (.builtin "property.__get__")))
    (pc4 : PySem.W.takesIn K (.ref pp4) = some true)
    (pd4 : PySem.W.recIn K pp4 "property" = some (.ref fp4 :: rs4))
    (lp4 : K.lookup fp4 = some ⟨ocp4, odp4, .func (PySem.W.fnOf "mark" "Column.mark" (defArgs sPMark) (defBody sPMark) (defScope sPMark) .none kVp4 dcp4 pmp4 anp4 cdp4 ctp4), slp4⟩)
    (cp4 : PySem.W.codeIn K cdp4 "Column.mark" = true)
    (kp4 : PySem.W.keepIn K (.ref fp4) = true)
    (gGe : PySem.W.specialIn K (.builtin "object.__class__") "__get__" = some (some (.builtin "getset_descriptor.__get__")))
    (gTk : PySem.W.takesIn K (.builtin "object.__class__") = some true)
    (gClaC : PySem.W.findIn K (.ref aC) "__class__" = some (some (.builtin "object.__class__")))
    (gObaC : PySem.W.mroIn K aC (.type "object") = some true)
    (aQ : PySem.W.findIn K (.ref aC) "__eq__" = some (some (.ref fQ)))
    (iQ : PySem.W.isFn K (.ref fQ) = true)
    (lQ : K.lookup fQ = some ⟨ocQ, odQ, .func (PySem.W.fnOf "__eq__" "Column.__eq__" (defArgs sMEq) (defBody sMEq) (defScope sMEq) .none kVQ dcQ pmQ anQ cdQ ctQ), slQ⟩)
    (cQ : PySem.W.codeIn K cdQ "Column.__eq__" = true)
    (kQ : PySem.W.keepIn K (.ref fQ) = true)
    (gNeaC : PySem.W.findIn K (.ref aC) "__ne__" = some (some (.builtin "object.__ne__")))
    (zaZ : PySem.W.nsIn K mainGlobals "Section" = some (some (.ref aZ)))
    (pgaZ : PySem.W.plainGet K aZ Str.empty = true)
    (hdaZ : PySem.W.hasDictIn K aZ = true)
    (poaZ : PySem.W.plainOver K aZ = true)
    (saaZ : PySem.W.findIn K (.ref aZ) "__setattr__" = some (some (.builtin "object.__setattr__")))
    (mkaZ : PySem.W.makesIn K aZ = true)
    (kcaZ : PySem.W.keepIn K (.ref aZ) = true)
    (naZ_columns : PySem.W.findIn K (.ref aZ) "_columns" = some none)
    (rdZ : PySem.W.readsIn K aZ (.type "type") = true)
    (gaZ : PySem.W.specialIn K (.ref aZ) "__getattribute__" = some (some (.builtin "type.__getattribute__")))
    (mcZ : PySem.W.findCls K (.ref aZ) (.type "type") "MOST_COLUMNS" = some (.val (.int 12 tM)))
    (aIZ : PySem.W.findIn K (.ref aZ) "__init__" = some (some (.ref fIZ)))
    (iIZ : PySem.W.isFn K (.ref fIZ) = true)
    (lIZ : K.lookup fIZ = some ⟨ocIZ, odIZ, .func (PySem.W.fnOf "__init__" "Section.__init__" (defArgs sSInit) (defBody sSInit) (defScope sSInit) .none kVIZ dcIZ pmIZ anIZ cdIZ ctIZ), slIZ⟩)
    (cIZ : PySem.W.codeIn K cdIZ "Section.__init__" = true)
    (kIZ : PySem.W.keepIn K (.ref fIZ) = true)
    (pa5 : PySem.W.findIn K (.ref aZ) "columns" = some (some (.ref pp5)))
    (pb5 : PySem.W.specialIn K (.ref pp5) "__get__" = some (some (.builtin "property.__get__")))
    (pc5 : PySem.W.takesIn K (.ref pp5) = some true)
    (pd5 : PySem.W.recIn K pp5 "property" = some (.ref fp5 :: rs5))
    (lp5 : K.lookup fp5 = some ⟨ocp5, odp5, .func (PySem.W.fnOf "columns" "Section.columns" (defArgs sPCols) (defBody sPCols) (defScope sPCols) .none kVp5 dcp5 pmp5 anp5 cdp5 ctp5), slp5⟩)
    (cp5 : PySem.W.codeIn K cdp5 "Section.columns" = true)
    (kp5 : PySem.W.keepIn K (.ref fp5) = true)
    (gClaZ : PySem.W.findIn K (.ref aZ) "__class__" = some (some (.builtin "object.__class__")))
    (gObaZ : PySem.W.mroIn K aZ (.type "object") = some true)
    (aS : PySem.W.findIn K (.ref aZ) "__eq__" = some (some (.ref fS)))
    (iS : PySem.W.isFn K (.ref fS) = true)
    (lS : K.lookup fS = some ⟨ocS, odS, .func (PySem.W.fnOf "__eq__" "Section.__eq__" (defArgs sSEq) (defBody sSEq) (defScope sSEq) .none kVS dcS pmS anS cdS ctS), slS⟩)
    (cS : PySem.W.codeIn K cdS "Section.__eq__" = true)
    (kS : PySem.W.keepIn K (.ref fS) = true)
    (gNeaZ : PySem.W.findIn K (.ref aZ) "__ne__" = some (some (.builtin "object.__ne__")))
    (ma1 : PySem.W.findIn K (.ref aZ) "part" = some (some (.ref fm1)))
    (mi1 : PySem.W.isFn K (.ref fm1) = true)
    (lm1 : K.lookup fm1 = some ⟨ocm1, odm1, .func (PySem.W.fnOf "part" "Section.part" (defArgs sSPart) (defBody sSPart) (defScope sSPart) .none kVm1 dcm1 pmm1 anm1 cdm1 ctm1), slm1⟩)
    (cm1 : PySem.W.codeIn K cdm1 "Section.part" = true)
    (km1 : PySem.W.keepIn K (.ref fm1) = true)
    (fiA : PySem.W.findIn K (.ref aZ) "__add__" = some (some (.ref fA)))
    (lA : K.lookup fA = some ⟨ocA, odA, .func (PySem.W.fnOf "__add__" "Section.__add__" (defArgs sSAdd) (defBody sSAdd) (defScope sSAdd) .none kVA dcA pmA anA cdA ctA), slA⟩)
    (cA : PySem.W.codeIn K cdA "Section.__add__" = true)
    (kA : PySem.W.keepIn K (.ref fA) = true)
    (sfA : PySem.W.selfFirst K aZ = true)
    (isA : PySem.W.isFn K (.ref fA) = true)
    (zaM : PySem.W.nsIn K mainGlobals "TooMany" = some (some (.ref aM)))
    (xLM : K.lookup aM = some (excClassObj nmM qM aM NM bsM ofMro true snM subM abM colM ddM m0 m1 m2 m3 m5 "OverflowError.__new__"))
    (saM : PySem.W.findIn K (.ref aM) "__setattr__" = some (some (.builtin "object.__setattr__")))
    (exM : PySem.W.subIn K (.ref aM) (.type "BaseException") = some true)
    (tyM : PySem.W.typeIn K (.ref aM) = some (.type "type"))
    (kcM : PySem.W.keepIn K (.ref aM) = true)
    (noM : PySem.W.findIn K (.ref aM) "most" = some none)
    (aIM : PySem.W.findIn K (.ref aM) "__init__" = some (some (.ref fIM)))
    (lIM : K.lookup fIM = some ⟨ocIM, odIM, .func (PySem.W.fnOf "__init__" "TooMany.__init__" (defArgs sTMInit) (defBody sTMInit) (defScope sTMInit) .none kVIM dcIM pmIM anIM cdIM ctIM), slIM⟩)
    (cIM : PySem.W.codeIn K cdIM "TooMany.__init__" = true)
    (kIM : PySem.W.keepIn K (.ref fIM) = true)
    (tIM : PySem.W.typeIn K (.ref fIM) = some (.type "function"))
    (gaM : PySem.W.findIn K (.ref aM) "__getattribute__" = some (some (.builtin "BaseException.__getattribute__")))
    (ggM : PySem.W.findIn K (.ref aM) "__getattr__" = some none)
    (hdM : PySem.W.hasDictIn K aM = true)
    (clM : PySem.W.isClsIn K aM = true)
    (gcM : PySem.W.findIn K (.ref aM) "__class__" = some (some (.builtin "object.__class__")))
    (obM : PySem.W.mroIn K aM (.type "object") = some true)
    (suM : PySem.W.subIn K (.ref aM) (.ref aM) = some true)
    (soM : PySem.W.subIn K (.ref aM) (.type "OverflowError") = some true)
    : ∃ fd : FuncData, (∀ (s : Shared) (v : Value), BindsTo s fd ⟨[v], []⟩ [("_law_script", v)]) ∧ ∀ base : Heap, K.In base → base.Ns mainGlobals mg → FnOk l.prog w K mg base CX0 12 fa fd ["_law_script"] (spLaw K) := by
  have e := hfa.symm.trans (PySem.W.mg_of X G a23)
  cases e
  have T : Txt mg := ⟨PySem.W.mg_none_of X G z_int, PySem.W.mg_none_of X G z_len, PySem.W.mg_none_of X G z_abs, PySem.W.mg_none_of X G z_range, PySem.W.mg_none_of X G z_tuple, PySem.W.mg_none_of X G z_list, PySem.W.mg_none_of X G z_str, PySem.W.mg_none_of X G z_bool, PySem.W.mg_none_of X G z_isinstance, PySem.W.mg_none_of X G z_all, PySem.W.mg_none_of X G z_any, PySem.W.mg_none_of X G z_min, PySem.W.mg_none_of X G z_sum, PySem.W.mg_none_of X G z_zip, PySem.W.mg_none_of X G z_max, PySem.W.mg_none_of X G z_dict, PySem.W.mg_none_of X G z_OverflowError⟩
  have F0 := fun_mk (st := sIsName) l0 c0 k0
  have D0 : DefAt K mg "is_name" sIsName ["value"] _ _ := ⟨F0, PySem.W.mg_of X G a0, F0.binds (ps := ["value"]) fun _ _ _ _ _ _ us hl => match us, hl with | [_], _ => rfl⟩
  have F1 := fun_mk (st := sIsLevel) l1 c1 k1
  have D1 : DefAt K mg "is_level" sIsLevel ["value"] _ _ := ⟨F1, PySem.W.mg_of X G a1, F1.binds (ps := ["value"]) fun _ _ _ _ _ _ us hl => match us, hl with | [_], _ => rfl⟩
  have F2 := fun_mk (st := sIsIndex) l2 c2 k2
  have D2 : DefAt K mg "is_index" sIsIndex ["value", "count"] _ _ := ⟨F2, PySem.W.mg_of X G a2, F2.binds (ps := ["value", "count"]) fun _ _ _ _ _ _ us hl => match us, hl with | [_, _], _ => rfl⟩
  have F3 := fun_mk (st := sNeedName) l3 c3 k3
  have D3 : DefAt K mg "need_name" sNeedName ["value"] _ _ := ⟨F3, PySem.W.mg_of X G a3, F3.binds (ps := ["value"]) fun _ _ _ _ _ _ us hl => match us, hl with | [_], _ => rfl⟩
  have F4 := fun_mk (st := sNeedLevel) l4 c4 k4
  have D4 : DefAt K mg "need_level" sNeedLevel ["value"] _ _ := ⟨F4, PySem.W.mg_of X G a4, F4.binds (ps := ["value"]) fun _ _ _ _ _ _ us hl => match us, hl with | [_], _ => rfl⟩
  have F5 := fun_mk (st := sNeedNameOrNone) l5 c5 k5
  have D5 : DefAt K mg "need_name_or_none" sNeedNameOrNone ["value"] _ _ := ⟨F5, PySem.W.mg_of X G a5, F5.binds (ps := ["value"]) fun _ _ _ _ _ _ us hl => match us, hl with | [_], _ => rfl⟩
  have F6 := fun_mk (st := sIsBed) l6 c6 k6
  have D6 : DefAt K mg "is_bed" sIsBed ["value"] _ _ := ⟨F6, PySem.W.mg_of X G a6, F6.binds (ps := ["value"]) fun _ _ _ _ _ _ us hl => match us, hl with | [_], _ => rfl⟩
  have F7 := fun_mk (st := sMerges) l7 c7 k7
  have D7 : DefAt K mg "merges" sMerges ["bed", "rock"] _ _ := ⟨F7, PySem.W.mg_of X G a7, F7.binds (ps := ["bed", "rock"]) fun _ _ _ _ _ _ us hl => match us, hl with | [_, _], _ => rfl⟩
  have F8 := fun_mk (st := sAreBeds) l8 c8 k8
  have D8 : DefAt K mg "are_beds" sAreBeds ["value"] _ _ := ⟨F8, PySem.W.mg_of X G a8, F8.binds (ps := ["value"]) fun _ _ _ _ _ _ us hl => match us, hl with | [_], _ => rfl⟩
  have F9 := fun_mk (st := sIsWidth) l9 c9 k9
  have D9 : DefAt K mg "is_width" sIsWidth ["value"] _ _ := ⟨F9, PySem.W.mg_of X G a9, F9.binds (ps := ["value"]) fun _ _ _ _ _ _ us hl => match us, hl with | [_], _ => rfl⟩
  have F10 := fun_mk (st := sAreColumns) l10 c10 k10
  have D10 : DefAt K mg "are_columns" sAreColumns ["value"] _ _ := ⟨F10, PySem.W.mg_of X G a10, F10.binds (ps := ["value"]) fun _ _ _ _ _ _ us hl => match us, hl with | [_], _ => rfl⟩
  have F11 := fun_mk (st := sCopied) l11 c11 k11
  have D11 : DefAt K mg "copied" sCopied ["value"] _ _ := ⟨F11, PySem.W.mg_of X G a11, F11.binds (ps := ["value"]) fun _ _ _ _ _ _ us hl => match us, hl with | [_], _ => rfl⟩
  have F12 := fun_mk (st := sFeed) l12 c12 k12
  have D12 : DefAt K mg "_law_feed" sFeed ["_law_script"] _ _ := ⟨F12, PySem.W.mg_of X G a12, F12.binds (ps := ["_law_script"]) fun _ _ _ _ _ _ us hl => match us, hl with | [_], _ => rfl⟩
  have F13 := fun_mk (st := sDraw) l13 c13 k13
  have D13 : DefAt K mg "_law_draw" sDraw ["_law_feed_here", "_law_many"] _ _ := ⟨F13, PySem.W.mg_of X G a13, F13.binds (ps := ["_law_feed_here", "_law_many"]) fun _ _ _ _ _ _ us hl => match us, hl with | [_, _], _ => rfl⟩
  have F14 := fun_mk (st := sPick) l14 c14 k14
  have D14 : DefAt K mg "_law_pick" sPick ["_law_feed_here", "_law_options"] _ _ := ⟨F14, PySem.W.mg_of X G a14, F14.binds (ps := ["_law_feed_here", "_law_options"]) fun _ _ _ _ _ _ us hl => match us, hl with | [_, _], _ => rfl⟩
  have F15 := fun_mk (st := sNames) l15 c15 k15
  have D15 : DefAt K mg "_law_names" sNames ["_law_feed_here", "_law_many"] _ _ := ⟨F15, PySem.W.mg_of X G a15, F15.binds (ps := ["_law_feed_here", "_law_many"]) fun _ _ _ _ _ _ us hl => match us, hl with | [_, _], _ => rfl⟩
  have F16 := fun_mk (st := sLevel) l16 c16 k16
  have D16 : DefAt K mg "_law_level" sLevel ["_law_feed_here"] _ _ := ⟨F16, PySem.W.mg_of X G a16, F16.binds (ps := ["_law_feed_here"]) fun _ _ _ _ _ _ us hl => match us, hl with | [_], _ => rfl⟩
  have F17 := fun_mk (st := sSection) l17 c17 k17
  have D17 : DefAt K mg "_law_section" sSection ["_law_state"] _ _ := ⟨F17, PySem.W.mg_of X G a17, F17.binds (ps := ["_law_state"]) fun _ _ _ _ _ _ us hl => match us, hl with | [_], _ => rfl⟩
  have F18 := fun_mk (st := sShown) l18 c18 k18
  have D18 : DefAt K mg "_law_shown" sShown ["_law_ground"] _ _ := ⟨F18, PySem.W.mg_of X G a18, F18.binds (ps := ["_law_ground"]) fun _ _ _ _ _ _ us hl => match us, hl with | [_], _ => rfl⟩
  have F19 := fun_mk (st := sPool) l19 c19 k19
  have D19 : DefAt K mg "_law_pool" sPool ["_law_feed_here"] _ _ := ⟨F19, PySem.W.mg_of X G a19, F19.binds (ps := ["_law_feed_here"]) fun _ _ _ _ _ _ us hl => match us, hl with | [_], _ => rfl⟩
  have F20 := fun_mk (st := sLayers) l20 c20 k20
  have D20 : DefAt K mg "_law_layers" sLayers ["_law_feed_here", "_law_pool_here", "_law_most"] _ _ := ⟨F20, PySem.W.mg_of X G a20, F20.binds (ps := ["_law_feed_here", "_law_pool_here", "_law_most"]) fun _ _ _ _ _ _ us hl => match us, hl with | [_, _, _], _ => rfl⟩
  have F21 := fun_mk (st := sColumn) l21 c21 k21
  have D21 : DefAt K mg "_law_column" sColumn ["_law_feed_here", "_law_pool_here", "_law_most"] _ _ := ⟨F21, PySem.W.mg_of X G a21, F21.binds (ps := ["_law_feed_here", "_law_pool_here", "_law_most"]) fun _ _ _ _ _ _ us hl => match us, hl with | [_, _, _], _ => rfl⟩
  have F22 := fun_mk (st := sSum) l22 c22 k22
  have D22 : DefAt K mg "_law_sum" sSum ["_law_west", "_law_east"] _ _ := ⟨F22, PySem.W.mg_of X G a22, F22.binds (ps := ["_law_west", "_law_east"]) fun _ _ _ _ _ _ us hl => match us, hl with | [_, _], _ => rfl⟩
  have F23 := fun_mk (st := sLaw) l23 c23 k23
  have D0 : Defs K mg := { fN := _, fdN := _, DN := D0, fL := _, fdL := _, DL := D1, fNN := _, fdNN := _, DNN := D3, fNL := _, fdNL := _, DNL := D4, fNO := _, fdNO := _, DNO := D5, fB := _, fdB := _, DB := D6, fM := _, fdM := _, DM := D7, fAB := _, fdAB := _, DAB := D8, tN := tLONGEST_NAME, mgN := PySem.W.mg_of X G zLONGEST_NAME }
  have DS : SDefs K mg := { fL := _, fdL := _, DL := D1, fW := _, fdW := _, DW := D9, fAC := _, fdAC := _, DAC := D10 }
  have L : LDefs K mg := { fF := _, fdF := _, DF := D12, fD := _, fdD := _, D := D13, fP := _, fdP := _, DP := D14, fNM := _, fdNM := _, DNM := D15, fLV := _, fdLV := _, DLV := D16, fPO := _, fdPO := _, DPO := D19, fLA := _, fdLA := _, DLA := D20, fCL := _, fdCL := _, DCL := D21, fSE := _, fdSE := _, DSE := D17, fSH := _, fdSH := _, DSH := D18, fSU := _, fdSU := _, DSU := D22 }
  have ht0 : ∀ H, SqT K H aT0 [] := fun H => .inr ⟨_, _, _, lT0, rfl, rfl, Nat.zero_le _, .nil⟩
  have FI : FunD K "__init__" "Column.__init__" (defArgs sInit) (defBody sInit) (defScope sInit) [.int 0, .ref aT0] [("root", .non), ("mark", .non)] fI _ := ⟨⟨_, _, _, _, _, _, _, _, _, _, rfl, lI, cI, .inr ⟨(fun z => nomatch z), aT, _, [Value.int 0 tZ, .ref aT0], nT, rfl, lT, rfl, .cons ⟨tZ, rfl⟩ (.cons rfl .nil)⟩, .inr ⟨aK, rfl, fun q hq => ?_⟩⟩, kI⟩
  rotate_left
  · rcases List.mem_cons.mp hq with rfl | hq
    · exact ⟨.none, kR, rfl⟩
    · cases List.mem_singleton.mp hq
      exact ⟨.none, kM, rfl⟩
  obtain ⟨i2, kb2⟩ := FI.kbindsD (ps := ["self", "foot", "beds", "root", "mark"]) 3 ["root", "mark"] (fun vs _ zs => vs ++ zs) (fun z => nomatch z) (fun r1 _ r3 => r1.append r3) (fun T kV doc pm an cdv ct us its ws h1 h2 h3 => match us, its, ws, h1, h2, h3 with | [_, _, _], [_, _], [_, _], _, _, _ => ⟨_, rfl, rfl⟩)
  obtain ⟨i1, kb1⟩ := FI.kbindsD (ps := ["self", "foot", "beds", "root", "mark"]) 2 ["root", "mark"] (fun vs ds zs => vs ++ (ds.drop 1 ++ zs)) (fun z => nomatch z) (fun r1 r2 r3 => r1.append ((r2.drop 1).append r3)) (fun T kV doc pm an cdv ct us its ws h1 h2 h3 => match us, its, ws, h1, h2, h3 with | [_, _], [_, _], [_, _], _, _, _ => ⟨_, rfl, rfl⟩)
  obtain ⟨i0, j0, kb0⟩ := FI.kbinds (ps := ["self", "foot", "beds", "root", "mark"]) 2 ["root"] [("mark", .non)] (fun vs ds mz zs => vs ++ (ds.drop 1 ++ (zs ++ mz))) (fun z => nomatch z) (fun z => nomatch z) (fun q hq => List.mem_cons_of_mem _ hq) (fun r1 r2 r3 r4 => r1.append ((r2.drop 1).append (r4.append r3))) (fun T D doc pm an cdv ct us its mv ws h1 h2 h3 h4 => match us, its, mv, ws, h1, h2, h3, h4 with | [_, _], [_, _], [_], [_], _, _, _, _ => ⟨_, rfl, _, _, _, _, _, _, rfl, rfl, rfl⟩)
  have Fp1 := fun_mk (x := "foot") (qual := "Column.foot") (st := sPFoot) lp1 cp1 kp1
  have bp1 := Fp1.binds (ps := ["self"]) fun _ _ _ _ _ _ us hl => match us, hl with | [_], _ => rfl
  have Fp2 := fun_mk (x := "beds") (qual := "Column.beds") (st := sPBeds) lp2 cp2 kp2
  have bp2 := Fp2.binds (ps := ["self"]) fun _ _ _ _ _ _ us hl => match us, hl with | [_], _ => rfl
  have Fp3 := fun_mk (x := "root") (qual := "Column.root") (st := sPRoot) lp3 cp3 kp3
  have bp3 := Fp3.binds (ps := ["self"]) fun _ _ _ _ _ _ us hl => match us, hl with | [_], _ => rfl
  have Fp4 := fun_mk (x := "mark") (qual := "Column.mark") (st := sPMark) lp4 cp4 kp4
  have bp4 := Fp4.binds (ps := ["self"]) fun _ _ _ _ _ _ us hl => match us, hl with | [_], _ => rfl
  let C : ColF K mg := { C := aC, cl := ⟨pgaC, hdaC, poaC, saaC⟩, mgC := PySem.W.mg_of X G zaC, nFoot := naC_foot, nBeds := naC_beds, nRoot := naC_root, nMark := naC_mark, t0 := aT0, ht0 := ht0, ty0 := fun H => .kTuple lT0 rfl, fI := fI, fdI := _, FI := FI, mkC := ⟨mkaC, aI, iI, kcaC⟩, g2 := _, g1 := _, g0 := _, kb2rm := kb2, kb1rm := kb1, kb1r := kb0, p1 := pp1, q1 := fp1, d1 := _, pFoot := ⟨pa1, pb1, pc1, ⟨_, pd1⟩⟩, FpFoot := Fp1, bFoot := bp1, p2 := pp2, q2 := fp2, d2 := _, pBeds := ⟨pa2, pb2, pc2, ⟨_, pd2⟩⟩, FpBeds := Fp2, bBeds := bp2, p3 := pp3, q3 := fp3, d3 := _, pRoot := ⟨pa3, pb3, pc3, ⟨_, pd3⟩⟩, FpRoot := Fp3, bRoot := bp3, p4 := pp4, q4 := fp4, d4 := _, pMark := ⟨pa4, pb4, pc4, ⟨_, pd4⟩⟩, FpMark := Fp4, bMark := bp4 }
  have CI : ColI K C.C := ⟨⟨pgaC, hdaC, poaC, saaC⟩, gClaC, gGe, gTk, gObaC⟩
  have FQ := fun_mk (x := "__eq__") (qual := "Column.__eq__") (st := sMEq) lQ cQ kQ
  have bQ := FQ.binds (ps := ["self", "other"]) fun _ _ _ _ _ _ us hl => match us, hl with | [_, _], _ => rfl
  have C2 : OwnQ K C.C "Column.__eq__" sMEq := { fq := fQ, dq := _, FEq := FQ, bEq := bQ, hNe := gNeaC, hEq := aQ, fEq := iQ, hObj := gObaC }
  have FIZ := fun_mk (x := "__init__") (qual := "Section.__init__") (st := sSInit) lIZ cIZ kIZ
  have bIZ := FIZ.binds (ps := ["self", "columns"]) fun _ _ _ _ _ _ us hl => match us, hl with | [_, _], _ => rfl
  have Fp5 := fun_mk (x := "columns") (qual := "Section.columns") (st := sPCols) lp5 cp5 kp5
  have bp5 := Fp5.binds (ps := ["self"]) fun _ _ _ _ _ _ us hl => match us, hl with | [_], _ => rfl
  let Z : SecF K mg := { C := aZ, cl := ⟨pgaZ, hdaZ, poaZ, saaZ⟩, mgC := PySem.W.mg_of X G zaZ, nCols := naZ_columns, mc := .type "type", rd := ⟨rdZ, gaZ⟩, u12 := .int 12 tM, most := ⟨mcZ, ⟨tM, rfl⟩⟩, fI := fIZ, fdI := _, FI := FIZ, bI := bIZ, mkC := ⟨mkaZ, aIZ, iIZ, kcaZ⟩, p1 := pp5, q1 := fp5, d1 := _, pCols := ⟨pa5, pb5, pc5, ⟨_, pd5⟩⟩, FpCols := Fp5, bCols := bp5 }
  have ZI : ColI K Z.C := ⟨⟨pgaZ, hdaZ, poaZ, saaZ⟩, gClaZ, gGe, gTk, gObaZ⟩
  have FS := fun_mk (x := "__eq__") (qual := "Section.__eq__") (st := sSEq) lS cS kS
  have bS := FS.binds (ps := ["self", "other"]) fun _ _ _ _ _ _ us hl => match us, hl with | [_, _], _ => rfl
  have C3 : OwnQ K Z.C "Section.__eq__" sSEq := { fq := fS, dq := _, FEq := FS, bEq := bS, hNe := gNeaZ, hEq := aS, fEq := iS, hObj := gObaZ }
  have Fm1 := fun_mk (x := "part") (qual := "Section.part") (st := sSPart) lm1 cm1 km1
  have bm1 := Fm1.binds (ps := ["self", "first", "last"]) fun _ _ _ _ _ _ us hl => match us, hl with | [_, _, _], _ => rfl
  have Z2 : SecP K Z.C := { f1 := fm1, e1 := _, mPart := ⟨ma1, mi1, km1⟩, FPart := Fm1, bPart := bm1 }
  have FA := fun_mk (x := "__add__") (qual := "Section.__add__") (st := sSAdd) lA cA kA
  have bA := FA.binds (ps := ["self", "other"]) fun _ _ _ _ _ _ us hl => match us, hl with | [_, _], _ => rfl
  have Z4 : SecA K Z.C := { fA := fA, dA := _, FA := FA, bA := bA, self1 := sfA, find := fiA, isF := isA }
  have FIM := fun_mk (x := "__init__") (qual := "TooMany.__init__") (st := sTMInit) lIM cIM kIM
  have bIM := FIM.binds (ps := ["self", "most"]) fun _ _ _ _ _ _ us hl => match us, hl with | [_, _], _ => rfl
  let M : TooF K mg := { C := aM, ob := ⟨PySem.F.excBase_OverflowError, ⟨nmM, qM, NM, bsM, snM, subM, abM, colM, ddM, m0, m1, m2, m3, m5, xLM⟩, PySem.F.store_OverflowError.passes, by decide +kernel, saM, exM, tyM, kcM⟩, mgC := PySem.W.mg_of X G zaM, no := noM, fI := fIM, fdI := _, FI := FIM, bI := bIM, iC := aIM, tI := tIM, fC := _, fdC := _, DCP := D11 }
  have MX : TooX K M.C := ⟨⟨gaM, ggM, exM, hdM⟩, ⟨clM, gaM, ggM, exM, gcM, gGe, gTk, obM⟩, exm_own exM clM tyM suM, kit_up soM⟩
  exact ⟨PySem.W.fnOf "law" "law" (defArgs sLaw) (defBody sLaw) (defScope sLaw) .none kV23 dc23 pm23 an23 cd23 ct23, fun s v => .of_eq rfl, fun base _ _ => ok_law F23 T C CI C2 Z ZI C3 Z2 Z4 D0 DS D2 M MX L⟩
end Rk
open PySem PySem.W PyProof.Rows
set_option maxRecDepth 100000 in
set_option maxHeartbeats 0 in
theorem PySem.Challenge.cw_rockbeds_k11_sections_side_by_side_holds : PySem.Challenge.rw_rockbeds_k11_sections_side_by_side.Holds := by
  w_on; o_law; k_head; (case hw => w_witness2)
  k_fill
  refine L2.walk_of (l := PySem.Challenge.rw_rockbeds_k11_sections_side_by_side) (n := 63) (k := 12) (x := "_law_script") (CX := fun _ => L2.CX0) (sp := fun w => Rk.spLaw _) rfl (by decide) rfl ⟨rfl, by decide, by decide⟩ (fun w h Y => PySem.W.kIn_of Y) ?F (fun _ _ a ns hl _ hS => ⟨a, ns, rfl, hS, hl, fun _ => rfl⟩) (fun _ _ _ _ _ h => h)
  case F =>
    intro w mg fa h KX G hmg
    refine' Rk.all_mk KX G hmg ?a0 ?l0 ?c0 ?k0 ?a1 ?l1 ?c1 ?k1 ?a2 ?l2 ?c2 ?k2 ?a3 ?l3 ?c3 ?k3 ?a4 ?l4 ?c4 ?k4 ?a5 ?l5 ?c5 ?k5 ?a6 ?l6 ?c6 ?k6 ?a7 ?l7 ?c7 ?k7 ?a8 ?l8 ?c8 ?k8 ?a9 ?l9 ?c9 ?k9 ?a10 ?l10 ?c10 ?k10 ?a11 ?l11 ?c11 ?k11 ?a12 ?l12 ?c12 ?k12 ?a13 ?l13 ?c13 ?k13 ?a14 ?l14 ?c14 ?k14 ?a15 ?l15 ?c15 ?k15 ?a16 ?l16 ?c16 ?k16 ?a17 ?l17 ?c17 ?k17 ?a18 ?l18 ?c18 ?k18 ?a19 ?l19 ?c19 ?k19 ?a20 ?l20 ?c20 ?k20 ?a21 ?l21 ?c21 ?k21 ?a22 ?l22 ?c22 ?k22 ?a23 ?l23 ?c23 ?k23 ?z_int ?z_len ?z_abs ?z_range ?z_tuple ?z_list ?z_str ?z_bool ?z_isinstance ?z_all ?z_any ?z_min ?z_sum ?z_zip ?z_max ?z_dict ?z_OverflowError ?zLONGEST_NAME ?zaC ?pgaC ?hdaC ?poaC ?saaC ?mkaC ?kcaC ?naC_foot ?naC_beds ?naC_root ?naC_mark ?aI ?iI ?lI ?cI ?kI ?lT ?lT0 ?kR ?kM ?pa1 ?pb1 ?pc1 ?pd1 ?lp1 ?cp1 ?kp1 ?pa2 ?pb2 ?pc2 ?pd2 ?lp2 ?cp2 ?kp2 ?pa3 ?pb3 ?pc3 ?pd3 ?lp3 ?cp3 ?kp3 ?pa4 ?pb4 ?pc4 ?pd4 ?lp4 ?cp4 ?kp4 ?gGe ?gTk ?gClaC ?gObaC ?aQ ?iQ ?lQ ?cQ ?kQ ?gNeaC ?zaZ ?pgaZ ?hdaZ ?poaZ ?saaZ ?mkaZ ?kcaZ ?naZ_columns ?rdZ ?gaZ ?mcZ ?aIZ ?iIZ ?lIZ ?cIZ ?kIZ ?pa5 ?pb5 ?pc5 ?pd5 ?lp5 ?cp5 ?kp5 ?gClaZ ?gObaZ ?aS ?iS ?lS ?cS ?kS ?gNeaZ ?ma1 ?mi1 ?lm1 ?cm1 ?km1 ?fiA ?lA ?cA ?kA ?sfA ?isA ?zaM ?xLM ?saM ?exM ?tyM ?kcM ?noM ?aIM ?lIM ?cIM ?kIM ?tIM ?gaM ?ggM ?hdM ?clM ?gcM ?obM ?suM ?soM
    (case a0 => k_is)
    (case l0 => k_is)
    (case c0 => k_is)
    (case k0 => k_is)
    (case a1 => k_is)
    (case l1 => k_is)
    (case c1 => k_is)
    (case k1 => k_is)
    (case a2 => k_is)
    (case l2 => k_is)
    (case c2 => k_is)
    (case k2 => k_is)
    (case a3 => k_is)
    (case l3 => k_is)
    (case c3 => k_is)
    (case k3 => k_is)
    (case a4 => k_is)
    (case l4 => k_is)
    (case c4 => k_is)
    (case k4 => k_is)
    (case a5 => k_is)
    (case l5 => k_is)
    (case c5 => k_is)
    (case k5 => k_is)
    (case a6 => k_is)
    (case l6 => k_is)
    (case c6 => k_is)
    (case k6 => k_is)
    (case a7 => k_is)
    (case l7 => k_is)
    (case c7 => k_is)
    (case k7 => k_is)
    (case a8 => k_is)
    (case l8 => k_is)
    (case c8 => k_is)
    (case k8 => k_is)
    (case a9 => k_is)
    (case l9 => k_is)
    (case c9 => k_is)
    (case k9 => k_is)
    (case a10 => k_is)
    (case l10 => k_is)
    (case c10 => k_is)
    (case k10 => k_is)
    (case a11 => k_is)
    (case l11 => k_is)
    (case c11 => k_is)
    (case k11 => k_is)
    (case a12 => k_is)
    (case l12 => k_is)
    (case c12 => k_is)
    (case k12 => k_is)
    (case a13 => k_is)
    (case l13 => k_is)
    (case c13 => k_is)
    (case k13 => k_is)
    (case a14 => k_is)
    (case l14 => k_is)
    (case c14 => k_is)
    (case k14 => k_is)
    (case a15 => k_is)
    (case l15 => k_is)
    (case c15 => k_is)
    (case k15 => k_is)
    (case a16 => k_is)
    (case l16 => k_is)
    (case c16 => k_is)
    (case k16 => k_is)
    (case a17 => k_is)
    (case l17 => k_is)
    (case c17 => k_is)
    (case k17 => k_is)
    (case a18 => k_is)
    (case l18 => k_is)
    (case c18 => k_is)
    (case k18 => k_is)
    (case a19 => k_is)
    (case l19 => k_is)
    (case c19 => k_is)
    (case k19 => k_is)
    (case a20 => k_is)
    (case l20 => k_is)
    (case c20 => k_is)
    (case k20 => k_is)
    (case a21 => k_is)
    (case l21 => k_is)
    (case c21 => k_is)
    (case k21 => k_is)
    (case a22 => k_is)
    (case l22 => k_is)
    (case c22 => k_is)
    (case k22 => k_is)
    (case a23 => k_is)
    (case l23 => k_is)
    (case c23 => k_is)
    (case k23 => k_is)
    (case z_int => k_is)
    (case z_len => k_is)
    (case z_abs => k_is)
    (case z_range => k_is)
    (case z_tuple => k_is)
    (case z_list => k_is)
    (case z_str => k_is)
    (case z_bool => k_is)
    (case z_isinstance => k_is)
    (case z_all => k_is)
    (case z_any => k_is)
    (case z_min => k_is)
    (case z_sum => k_is)
    (case z_zip => k_is)
    (case z_max => k_is)
    (case z_dict => k_is)
    (case z_OverflowError => k_is)
    (case zLONGEST_NAME => k_is)
    (case zaC => k_is)
    (case pgaC => k_is)
    (case hdaC => k_is)
    (case poaC => k_is)
    (case saaC => k_is)
    (case mkaC => k_is)
    (case kcaC => k_is)
    (case naC_foot => k_is)
    (case naC_beds => k_is)
    (case naC_root => k_is)
    (case naC_mark => k_is)
    (case aI => k_is)
    (case iI => k_is)
    (case lI => k_is)
    (case cI => k_is)
    (case kI => k_is)
    (case lT => k_is)
    (case lT0 => k_is)
    (case kR => k_is)
    (case kM => k_is)
    (case pa1 => k_is)
    (case pb1 => k_is)
    (case pc1 => k_is)
    (case pd1 => k_is)
    (case lp1 => k_is)
    (case cp1 => k_is)
    (case kp1 => k_is)
    (case pa2 => k_is)
    (case pb2 => k_is)
    (case pc2 => k_is)
    (case pd2 => k_is)
    (case lp2 => k_is)
    (case cp2 => k_is)
    (case kp2 => k_is)
    (case pa3 => k_is)
    (case pb3 => k_is)
    (case pc3 => k_is)
    (case pd3 => k_is)
    (case lp3 => k_is)
    (case cp3 => k_is)
    (case kp3 => k_is)
    (case pa4 => k_is)
    (case pb4 => k_is)
    (case pc4 => k_is)
    (case pd4 => k_is)
    (case lp4 => k_is)
    (case cp4 => k_is)
    (case kp4 => k_is)
    (case gGe => k_is)
    (case gTk => k_is)
    (case gClaC => k_is)
    (case gObaC => k_is)
    (case aQ => k_is)
    (case iQ => k_is)
    (case lQ => k_is)
    (case cQ => k_is)
    (case kQ => k_is)
    (case gNeaC => k_is)
    (case zaZ => k_is)
    (case pgaZ => k_is)
    (case hdaZ => k_is)
    (case poaZ => k_is)
    (case saaZ => k_is)
    (case mkaZ => k_is)
    (case kcaZ => k_is)
    (case naZ_columns => k_is)
    (case rdZ => k_is)
    (case gaZ => k_is)
    (case mcZ => k_is)
    (case aIZ => k_is)
    (case iIZ => k_is)
    (case lIZ => k_is)
    (case cIZ => k_is)
    (case kIZ => k_is)
    (case pa5 => k_is)
    (case pb5 => k_is)
    (case pc5 => k_is)
    (case pd5 => k_is)
    (case lp5 => k_is)
    (case cp5 => k_is)
    (case kp5 => k_is)
    (case gClaZ => k_is)
    (case gObaZ => k_is)
    (case aS => k_is)
    (case iS => k_is)
    (case lS => k_is)
    (case cS => k_is)
    (case kS => k_is)
    (case gNeaZ => k_is)
    (case ma1 => k_is)
    (case mi1 => k_is)
    (case lm1 => k_is)
    (case cm1 => k_is)
    (case km1 => k_is)
    (case fiA => k_is)
    (case lA => k_is)
    (case cA => k_is)
    (case kA => k_is)
    (case sfA => k_is)
    (case isA => k_is)
    (case zaM => k_is)
    (case xLM => k_is)
    (case saM => k_is)
    (case exM => k_is)
    (case tyM => k_is)
    (case kcM => k_is)
    (case noM => k_is)
    (case aIM => k_is)
    (case lIM => k_is)
    (case cIM => k_is)
    (case kIM => k_is)
    (case tIM => k_is)
    (case gaM => k_is)
    (case ggM => k_is)
    (case hdM => k_is)
    (case clM => k_is)
    (case gcM => k_is)
    (case obM => k_is)
    (case suM => k_is)
    (case soM => k_is)
