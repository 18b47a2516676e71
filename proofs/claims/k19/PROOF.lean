import PyProof.Rows.All
import Wide.All
import OpenK.AllK
import Wide.FinOn
import HandS.Base
import HandS.Words
import HandS.Head0
import HandS.Head1
import HandS.Head2
import HandS.HeadHook1
import HandS.HeadHook2
import HandS.HeadHook3
import HandS.HeadHook4
import PySem.Challenge.RW_rockbeds_k19_events_refused
import HandS.ForMost
import HandS.Wide
import HandS.IsInst
import HandS.RaiseMore
import HandS.TupLe
import HandS.Codes
import HandS.Walk
import HandS.Style
import HandS.Zip
import HandS.TupAny
import HandS.Property
import HandS.MakeKw
import HandS.Defaults
import HandS.ClsMeth
import HandS.WordsExc
import HandS.ExcInit
import HandS.ExcIs
import KE.KExcInit
import KE.KExcIs
import HandS.OwnEq
import HandS.TryOnly
import HandS.ExcField
import KE.KRevSl
import HandS.DictComp
import HandS.MakeKwOnly
import PyProof.EqKinds
import HandS.Deep
import KE.KDictList
import PyProof.StrWalks
import PyProof.StrOps
import HandS.ExcValue
import HandS.CallLocal
import HandS.Lambda
import HandS.EndTab
import HandS.Conv
set_option Elab.async false
set_option linter.all false
set_option maxRecDepth 100000
set_option maxHeartbeats 1000000
/-! HB: a head by one run over the heap as a tree, its facts told by a Bool -/
namespace DL
open PySem L2
open PySem.Spec PyProof.Rows
/-! ### where things stand -/
def pGl (x : Str) (K : PySem.W.Frag) : Addr := He.ga K x
def pMe (C : PySem.W.Frag → Addr) (m : Str) (K : PySem.W.Frag) : Addr := match PySem.W.findIn K (.ref (C K)) m with
  | some (some (.ref a)) => a
  | _ => 0
def pGt (p : PySem.W.Frag → Addr) (T : String) (K : PySem.W.Frag) : Addr := match PySem.W.recIn K (p K) T with
  | some (.ref a :: _) => a
  | _ => 0
def pGr (p : PySem.W.Frag → Addr) (T : String) (K : PySem.W.Frag) : List Value := match PySem.W.recIn K (p K) T with
  | some (_ :: r) => r
  | _ => []
def pIt (v : Option (Option Value)) : Tok := match v with
  | some (some (.int _ t)) => t
  | some (some (.str _ t)) => t
  | _ => 0
def pIc (v : Option PySem.W.CFound) : Tok := match v with
  | some (.val (.int _ t)) => t
  | _ => 0
def cfV (v : Option PySem.W.CFound) : Option Value := match v with
  | some (.val u) => some u
  | _ => none
theorem cfV_ok {v : Option PySem.W.CFound} {u : Value} (h : cfV v = some u) : v = some (.val u) := by
  unfold cfV at h
  split at h
  · cases h
    rfl
  · cases h
def pDf (K : PySem.W.Frag) (a : Addr) : Value := match K.lookup a with
  | some ⟨_, _, .func fd, _⟩ => fd.defaults
  | _ => .ellipsis
def pKd (K : PySem.W.Frag) (a : Addr) : Value := match K.lookup a with
  | some ⟨_, _, .func fd, _⟩ => fd.kwdefaults
  | _ => .ellipsis
def pRf (v : Value) : Addr := match v with
  | .ref a => a
  | _ => 0
theorem pDf_eq {K : PySem.W.Frag} {a : Addr} {oc : Value} {od : Option Addr} {sl : Array (Option Value)} {fd : FuncData} (l : K.lookup a = some ⟨oc, od, .func fd, sl⟩) : pDf K a = fd.defaults := by
  unfold pDf
  rw [l]
theorem pKd_eq {K : PySem.W.Frag} {a : Addr} {oc : Value} {od : Option Addr} {sl : Array (Option Value)} {fd : FuncData} (l : K.lookup a = some ⟨oc, od, .func fd, sl⟩) : pKd K a = fd.kwdefaults := by
  unfold pKd
  rw [l]
/-! ### functions -/
structure FnP where
  at_ : PySem.W.Frag → Addr
  name : Str
  qual : Str
  params : Arguments
  body : List Stmt
  scope : Scope
def FnP.val (d : FnP) : He.FnW := some (d.name, d.qual, d.params, .stmts d.body, d.scope, mainGlobals, [], builtinsNs)
def fnP (K : PySem.W.Frag) (a : Addr) : He.FnW := match K.lookup a with
  | some ⟨_, _, .func fd, _⟩ => some (fd.name, fd.qualname, fd.params, fd.body, fd.scope, fd.globals, fd.closure, fd.builtins)
  | _ => none
def FnP.ok (K : PySem.W.Frag) (d : FnP) : Bool := match K.lookup (d.at_ K) with
  | some ⟨_, _, .func fd, _⟩ => PySem.W.codeIn K fd.code d.qual
  | _ => false
theorem FnP.fn {K : PySem.W.Frag} {d : FnP} (e : fnP K (d.at_ K) = d.val) (c : d.ok K = true) : ∃ oc od sl dV kV doc pm an cdv ct, K.lookup (d.at_ K) = some ⟨oc, od, .func (PySem.W.fnOf d.name d.qual d.params d.body d.scope dV kV doc pm an cdv ct), sl⟩ ∧ PySem.W.codeIn K cdv d.qual = true := by
  have c2 : (match K.lookup (d.at_ K) with
    | some ⟨_, _, .func fd, _⟩ => PySem.W.codeIn K fd.code d.qual
    | _ => false) = true := c
  unfold fnP at e
  cases q : K.lookup (d.at_ K) with
  | none =>
    rw [q] at c2
    cases c2
  | some o =>
    obtain ⟨oc, od, dt, osl⟩ := o
    rw [q] at c2 e
    cases dt with
    | func fd =>
      obtain ⟨n1, n2, n3, n4, n5, n6, n7, n8, n9, n10, n11, n12, n13, n14, n15⟩ := fd
      have e2 : (some (n1, n2, n3, n4, n5, n6, n7, n15) : He.FnW) = some (d.name, d.qual, d.params, .stmts d.body, d.scope, mainGlobals, [], builtinsNs) := e
      simp only [Option.some.injEq, Prod.mk.injEq] at e2
      obtain ⟨h1, h2, h3, h4, h5, h6, h7, h8⟩ := e2
      subst h1 h2 h3 h4 h5 h6 h7 h8
      exact ⟨oc, od, osl, n8, n9, n10, n11, n12, n13, n14, rfl, c2⟩
    | _ => cases c2
/-! ### the Hook -/
abbrev AlP : Type := Bool × Bool × Bool × List He.FnW
def obsP (e1 e2 : List (PySem.W.Frag → Bool)) (fn : List FnP) (K : PySem.W.Frag) : AlP := (e1.all fun f => f K, e2.all fun f => f K, fn.all fun d => d.ok K, fn.map fun d => fnP K (d.at_ K))
def valP (fn : List FnP) : AlP := (true, true, true, fn.map FnP.val)
structure SaysP (e1 e2 : List (PySem.W.Frag → Bool)) (fn : List FnP) (K : PySem.W.Frag) : Prop where
  h1 : e1.all (fun f => f K) = true
  h2 : e2.all (fun f => f K) = true
  h3 : fn.all (fun d => d.ok K) = true
  h4 : fn.map (fun d => fnP K (d.at_ K)) = fn.map FnP.val
theorem says_of {e1 e2 : List (PySem.W.Frag → Bool)} {fn : List FnP} {K : PySem.W.Frag} (h : obsP e1 e2 fn K = valP fn) : SaysP e1 e2 fn K :=
  ⟨congrArg (fun z : AlP => z.1) h, congrArg (fun z : AlP => z.2.1) h, congrArg (fun z : AlP => z.2.2.1) h, congrArg (fun z : AlP => z.2.2.2) h⟩
def hookP (e1 e2 : List (PySem.W.Frag → Bool)) (fn : List FnP) : PySem.W.Hook where
  α := AlP
  obs := fun s => obsP e1 e2 fn (He.frG s.heap.get? (List.range s.heap.objs.size))
  val := fun _ => valP fn
  says := fun _ h => ∃ K : PySem.W.Frag, K.In h ∧ SaysP e1 e2 fn K
  of := fun _ _ e => ⟨_, He.frG_in, says_of e⟩
  keeps := fun _ _ _ ⟨K, hK, c⟩ k => ⟨K, PySem.W.Frag.In.keeps hK k, c⟩
/-- what stands behind the top, off the tree -/
def frP (s : PySem.W.SharedT) : PySem.W.Frag := He.frG (HandSHeadRun.getT s) (List.range s.n)
def obP (e1 e2 : List (PySem.W.Frag → Bool)) (fn : List FnP) (s : PySem.W.SharedT) : AlP := obsP e1 e2 fn (frP s)
theorem obP_eq (e1 e2 : List (PySem.W.Frag → Bool)) (fn : List FnP) (s : PySem.W.SharedT) : obP e1 e2 fn s = (hookP e1 e2 fn).obs s.abs := by
  have e : HandSHeadRun.getT s = s.abs.heap.get? := funext (HandSHeadRun.getT_eq s)
  have e2' : s.abs.heap.objs.size = s.n := PySem.W.absHeap_size s.tree s.n s.life
  show obsP e1 e2 fn (He.frG (HandSHeadRun.getT s) (List.range s.n)) = obsP e1 e2 fn (He.frG s.abs.heap.get? (List.range s.abs.heap.objs.size))
  rw [e, e2']
section
variable {e1 e2 : List (PySem.W.Frag → Bool)} {fn : List FnP} {K : PySem.W.Frag}
theorem SaysP.fact1 (c : SaysP e1 e2 fn K) (i : Nat) {f : PySem.W.Frag → Bool} (h : e1[i]? = some f := by rfl) : f K = true := List.all_eq_true.mp c.h1 f (List.mem_of_getElem? h)
theorem SaysP.fact2 (c : SaysP e1 e2 fn K) (i : Nat) {f : PySem.W.Frag → Bool} (h : e2[i]? = some f := by rfl) : f K = true := List.all_eq_true.mp c.h2 f (List.mem_of_getElem? h)
theorem SaysP.def_ (c : SaysP e1 e2 fn K) (i : Nat) {d : FnP} (h : fn[i]? = some d := by rfl) : ∃ oc od sl dV kV doc pm an cdv ct, K.lookup (d.at_ K) = some ⟨oc, od, .func (PySem.W.fnOf d.name d.qual d.params d.body d.scope dV kV doc pm an cdv ct), sl⟩ ∧ PySem.W.codeIn K cdv d.qual = true := by
  have e2 : (fn.map fun d => fnP K (d.at_ K))[i]? = (fn.map FnP.val)[i]? := by rw [c.h4]
  rw [List.getElem?_map, List.getElem?_map, h] at e2
  exact FnP.fn (Option.some.inj e2) (List.all_eq_true.mp c.h3 d (List.mem_of_getElem? h))
end
/-! ### the run, look by look -/
theorem map2 {α β γ : Type} {o : Option α} {f : α → β} {g : α → γ} {b : β} {c : γ} (h1 : o.map f = some b) (h2 : o.map g = some c) : o.map (fun s => (f s, g s)) = some (b, c) := by
  cases o with
  | none => cases h1
  | some x =>
    have a1 : f x = b := Option.some.inj h1
    have a2 : g x = c := Option.some.inj h2
    show some (f x, g x) = some (b, c)
    rw [a1, a2]
/-- the top's end -/
noncomputable abbrev endP (r : PySem.W.OpenRow) (M : Nat) (w : World) (os : OsState) : Option PySem.W.SharedT := HandSHeadRun.endF (HandSHeadRun.stepQ (HandSHeadRun.denQ HandSHeadRun.tabQ) r.prog w) M r.prog w os
theorem runEq_of {r : PySem.W.OpenRow} {q : Program} {e1 e2 : List (PySem.W.Frag → Bool)} {fn : List FnP} {M : Nat} {loose : List Str} {w : World}
    (hA : ∀ os, (endP r M w os).map (fun s => (HandSHeadRun.looksF r.prog (PySem.W.boot_heap w.params) s.abs, HandSHeadRun.seenQ q loose (importedModules r.prog.main.body) (fun s => PySem.W.xlAt q [] s && PySem.W.recOk r.toRowW.records s) s.abs)) = some (true, PySem.W.openGood q loose))
    (h1 : ∀ os, (endP r M w os).map (fun s => e1.all fun f => f (frP s)) = some true) (h2 : ∀ os, (endP r M w os).map (fun s => e2.all fun f => f (frP s)) = some true)
    (h3 : ∀ os, (endP r M w os).map (fun s => fn.all fun d => d.ok (frP s)) = some true) (h4 : ∀ os, (endP r M w os).map (fun s => fn.map fun d => fnP (frP s) (d.at_ (frP s))) = some (fn.map FnP.val)) :
    HandSHeadRun.RunEq r q (hookP e1 e2 fn) (obP e1 e2 fn) M loose w := fun os => by
  have a := map2 (hA os) (map2 (h1 os) (map2 (h2 os) (map2 (h3 os) (h4 os))))
  cases e : endP r M w os with
  | none =>
    rw [e] at a
    cases a
  | some s =>
    rw [e] at a
    have a2 := Option.some.inj a
    show Option.map _ (endP r M w os) = _
    rw [e]
    refine congrArg some ?_
    have b1 := congrArg (fun z => z.1.1) a2
    have b2 := congrArg (fun z => z.1.2) a2
    have b3 := congrArg (fun z => z.2) a2
    exact Prod.ext b1 (Prod.ext b2 b3)
/-- .. by two runs -/
theorem runEq_of2 {r : PySem.W.OpenRow} {q : Program} {e1 e2 : List (PySem.W.Frag → Bool)} {fn : List FnP} {M : Nat} {loose : List Str} {w : World}
    (hA : ∀ os, (endP r M w os).map (fun s => (HandSHeadRun.looksF r.prog (PySem.W.boot_heap w.params) s.abs, HandSHeadRun.seenQ q loose (importedModules r.prog.main.body) (fun s => PySem.W.xlAt q [] s && PySem.W.recOk r.toRowW.records s) s.abs, fn.map fun d => fnP (frP s) (d.at_ (frP s)))) = some (true, PySem.W.openGood q loose, fn.map FnP.val))
    (hB : ∀ os, (endP r M w os).map (fun s => (e1.all fun f => f (frP s)) && ((e2.all fun f => f (frP s)) && fn.all fun d => d.ok (frP s))) = some true) :
    HandSHeadRun.RunEq r q (hookP e1 e2 fn) (obP e1 e2 fn) M loose w := fun os => by
  have a := map2 (hA os) (hB os)
  cases e : endP r M w os with
  | none =>
    rw [e] at a
    cases a
  | some s =>
    rw [e] at a
    have a2 := Option.some.inj a
    show Option.map _ (endP r M w os) = _
    rw [e]
    refine congrArg some ?_
    have b1 := congrArg (fun z => z.1.1) a2
    have b2 := congrArg (fun z => z.1.2.1) a2
    have b3 := congrArg (fun z => z.1.2.2) a2
    have b4 := congrArg (fun z => z.2) a2
    obtain ⟨c1, c2⟩ := He.ba b4
    obtain ⟨c2, c3⟩ := He.ba c2
    exact Prod.ext b1 (Prod.ext b2 (Prod.ext c1 (Prod.ext c2 (Prod.ext c3 b3))))
end DL

set_option Elab.async false
set_option linter.all false
set_option maxRecDepth 100000
set_option maxHeartbeats 1000000
/-! HB3: HB for a law whose own def makes functions: its code object's table stands apart -/
namespace DL
open PySem L2
open PySem.Spec PyProof.Rows
abbrev lawP : He.Defn := (("law" : Str), none)
def obsPT (e1 e2 : List (PySem.W.Frag → Bool)) (fn : List FnP) (g : Addr → Option Obj) (K : PySem.W.Frag) : AlP := (e1.all fun f => f K, e2.all fun f => f K, (fn.all fun d => d.ok K) && He.tabsB g [lawP] K, fn.map fun d => fnP K (d.at_ K))
structure SaysPT (e1 e2 : List (PySem.W.Frag → Bool)) (fn : List FnP) (K : PySem.W.Frag) : Prop where
  s : SaysP e1 e2 fn K
  hd : PySem.W.codeHdIn K (He.cT K lawP).1 (He.cT K lawP).2 = true
  out : K.lookup (He.cT K lawP).2 = none
theorem saysPT_of {e1 e2 : List (PySem.W.Frag → Bool)} {fn : List FnP} {g : Addr → Option Obj} {as : List Addr} (h : obsPT e1 e2 fn g (He.frT g as) = valP fn) : SaysPT e1 e2 fn (He.frT g as) := by
  have c3 : ((fn.all fun d => d.ok (He.frT g as)) && He.tabsB g [lawP] (He.frT g as)) = true := congrArg (fun z : AlP => z.2.2.1) h
  obtain ⟨h3, h4⟩ := He.ba c3
  obtain ⟨h5, h6⟩ := He.ba (List.all_eq_true.mp h4 lawP List.mem_cons_self)
  refine ⟨⟨congrArg (fun z : AlP => z.1) h, congrArg (fun z : AlP => z.2.1) h, h3, congrArg (fun z : AlP => z.2.2.2) h⟩, h5, ?_⟩
  cases q : g (He.cT (He.frT g as) lawP).2 with
  | none => rw [q] at h6; cases h6
  | some o =>
    rw [q] at h6
    exact He.frT_none q h6
def hookPT (e1 e2 : List (PySem.W.Frag → Bool)) (fn : List FnP) : PySem.W.Hook where
  α := AlP
  obs := fun s => obsPT e1 e2 fn s.heap.get? (He.frT s.heap.get? (List.range s.heap.objs.size))
  val := fun _ => valP fn
  says := fun _ h => ∃ K : PySem.W.Frag, K.In h ∧ SaysPT e1 e2 fn K
  of := fun _ _ e => ⟨_, He.frT_in, saysPT_of e⟩
  keeps := fun _ _ _ ⟨K, hK, c⟩ k => ⟨K, PySem.W.Frag.In.keeps hK k, c⟩
def frPT (s : PySem.W.SharedT) : PySem.W.Frag := He.frT (HandSHeadRun.getT s) (List.range s.n)
def obPT (e1 e2 : List (PySem.W.Frag → Bool)) (fn : List FnP) (s : PySem.W.SharedT) : AlP := obsPT e1 e2 fn (HandSHeadRun.getT s) (frPT s)
theorem obPT_eq (e1 e2 : List (PySem.W.Frag → Bool)) (fn : List FnP) (s : PySem.W.SharedT) : obPT e1 e2 fn s = (hookPT e1 e2 fn).obs s.abs := by
  have e : HandSHeadRun.getT s = s.abs.heap.get? := funext (HandSHeadRun.getT_eq s)
  have e2' : s.abs.heap.objs.size = s.n := PySem.W.absHeap_size s.tree s.n s.life
  show obsPT e1 e2 fn (HandSHeadRun.getT s) (He.frT (HandSHeadRun.getT s) (List.range s.n)) = obsPT e1 e2 fn s.abs.heap.get? (He.frT s.abs.heap.get? (List.range s.abs.heap.objs.size))
  rw [e, e2']
theorem runEq_ofPT {r : PySem.W.OpenRow} {q : Program} {e1 e2 : List (PySem.W.Frag → Bool)} {fn : List FnP} {M : Nat} {loose : List Str} {w : World}
    (hA : ∀ os, (endP r M w os).map (fun s => (HandSHeadRun.looksF r.prog (PySem.W.boot_heap w.params) s.abs, HandSHeadRun.seenQ q loose (importedModules r.prog.main.body) (fun s => PySem.W.xlAt q [] s && PySem.W.recOk r.toRowW.records s) s.abs, fn.map fun d => fnP (frPT s) (d.at_ (frPT s)))) = some (true, PySem.W.openGood q loose, fn.map FnP.val))
    (hB : ∀ os, (endP r M w os).map (fun s => (e1.all fun f => f (frPT s)) && ((e2.all fun f => f (frPT s)) && ((fn.all fun d => d.ok (frPT s)) && He.tabsB (HandSHeadRun.getT s) [lawP] (frPT s)))) = some true) :
    HandSHeadRun.RunEq r q (hookPT e1 e2 fn) (obPT e1 e2 fn) M loose w := fun os => by
  have a := map2 (hA os) (hB os)
  cases e : endP r M w os with
  | none =>
    rw [e] at a
    cases a
  | some s =>
    rw [e] at a
    have a2 := Option.some.inj a
    show Option.map _ (endP r M w os) = _
    rw [e]
    refine congrArg some ?_
    have b1 := congrArg (fun z => z.1.1) a2
    have b2 := congrArg (fun z => z.1.2.1) a2
    have b3 := congrArg (fun z => z.1.2.2) a2
    have b4 := congrArg (fun z => z.2) a2
    obtain ⟨c1, c2⟩ := He.ba b4
    obtain ⟨c2, c3⟩ := He.ba c2
    exact Prod.ext b1 (Prod.ext b2 (Prod.ext c1 (Prod.ext c2 (Prod.ext c3 b3))))
theorem tabIn_code {K : PySem.W.Frag} {f c Q : Addr} {oc : Value} {od : Option Addr} {fd : FuncData} {osl : Array (Option Value)} (a : PySem.W.nsIn K mainGlobals "law" = some (some (.ref f))) (l : K.lookup f = some ⟨oc, od, .func fd, osl⟩) (t : PySem.W.tabIn K "law" = some (c, Q)) : fd.code = .ref c := by
  unfold PySem.W.tabIn at t
  rw [a] at t
  dsimp only at t
  rw [l] at t
  dsimp only at t
  cases e : fd.code with
  | ref c' =>
    rw [e] at t
    dsimp only at t
    cases e2 : K.lookup c' with
    | none => rw [e2] at t; cases t
    | some o =>
      rw [e2] at t
      obtain ⟨a1, a2, dt, a3⟩ := o
      cases dt with
      | fields vs =>
        dsimp only at t
        split at t
        · cases t; rfl
        · cases t
      | _ => cases t
  | _ => rw [e] at t; cases t
/-! ### a class of errors -/
def clsB (K : PySem.W.Frag) (C : Addr) (bm : List Value) (nn : String) : Bool := match K.lookup C with
  | some ⟨.type tn, _, .cls c, sl⟩ => decide (tn = "type") && (decide (c.mro = .ref C :: bm) && (c.hasDict && (!c.hasDel && (match sl.toList with
    | [_, _, _, _, k4, _] => decide (k4 = some (.builtin nn))
    | _ => false))))
  | _ => false
theorem clsB_ok {K : PySem.W.Frag} {C : Addr} {bm : List Value} {nn : String} (h : clsB K C bm nn = true) : ∃ nm q N bs sn sub ab col dd k0 k1 k2 k3 k5, K.lookup C = some (excClassObj nm q C N bs bm true sn sub ab col dd k0 k1 k2 k3 k5 nn) := by
  unfold clsB at h
  split at h
  · rename_i tn dd c sl q
    obtain ⟨h1, g1⟩ := He.ba h
    obtain ⟨h2, g2⟩ := He.ba g1
    obtain ⟨h3, g3⟩ := He.ba g2
    obtain ⟨h4, g4⟩ := He.ba g3
    clear h g1 g2 g3
    have e1 := of_decide_eq_true h1
    have e2 := of_decide_eq_true h2
    subst e1
    split at g4
    · rename_i k0 k1 k2 k3 k4 k5 es
      have e3 := of_decide_eq_true g4
      subst e3
      obtain ⟨nm, bs, mro, ns, qn, hd, sn, sub, ab, col, hdel⟩ := c
      have e2' : mro = .ref C :: bm := e2
      have h3' : hd = true := h3
      have h4' : hdel = false := by
        cases hdel with
        | false => rfl
        | true => cases h4
      subst e2' h3' h4'
      have e4 : sl = #[k0, k1, k2, k3, some (.builtin nn), k5] := by
        apply Array.toList_inj.mp
        rw [es]
      rw [q, e4]
      exact ⟨_, _, _, _, _, _, _, _, _, _, _, _, _, _, rfl⟩
    · cases g4
  · cases h
end DL

set_option Elab.async false
set_option linter.all false
set_option maxRecDepth 100000
set_option maxHeartbeats 0
namespace Rk
open PySem L2 DL
open PySem.Spec PyProof.Rows
def topR (i : Nat) : Stmt := PySem.Challenge.pw_rockbeds_k19_events_refused.main.body.getD i (.Pass ⟨0, 0, 0, 0⟩)
def v_cL (K : PySem.W.Frag) : Addr := (He.cT K lawP).1
def v_Pt (K : PySem.W.Frag) : Addr := (He.cT K lawP).2
def v_f0 (K : PySem.W.Frag) : Addr := pGl "is_name" K
def v_f1 (K : PySem.W.Frag) : Addr := pGl "is_level" K
def v_f2 (K : PySem.W.Frag) : Addr := pGl "is_index" K
def v_f3 (K : PySem.W.Frag) : Addr := pGl "need_name" K
def v_f4 (K : PySem.W.Frag) : Addr := pGl "need_level" K
def v_f5 (K : PySem.W.Frag) : Addr := pGl "is_width" K
def v_f6 (K : PySem.W.Frag) : Addr := pGl "need_column" K
def v_f7 (K : PySem.W.Frag) : Addr := pGl "is_span" K
def v_f8 (K : PySem.W.Frag) : Addr := pGl "need_span_or_none" K
def v_f9 (K : PySem.W.Frag) : Addr := pGl "copied" K
def v_f10 (K : PySem.W.Frag) : Addr := pGl "_law_feed" K
def v_f11 (K : PySem.W.Frag) : Addr := pGl "_law_draw" K
def v_f12 (K : PySem.W.Frag) : Addr := pGl "_law_pick" K
def v_f13 (K : PySem.W.Frag) : Addr := pGl "_law_any" K
def v_f14 (K : PySem.W.Frag) : Addr := pGl "_law_is_int" K
def v_f15 (K : PySem.W.Frag) : Addr := pGl "_law_is_word" K
def v_f16 (K : PySem.W.Frag) : Addr := pGl "_law_caught" K
def v_f17 (K : PySem.W.Frag) : Addr := pGl "_law_looked" K
def v_f18 (K : PySem.W.Frag) : Addr := pGl "_law_due_lift" K
def v_f19 (K : PySem.W.Frag) : Addr := pGl "_law_some_lifts" K
def v_f20 (K : PySem.W.Frag) : Addr := pGl "law" K
def v_tLONGEST_NAME (K : PySem.W.Frag) : Tok := pIt (PySem.W.nsIn K mainGlobals "LONGEST_NAME")
def v_aZ (K : PySem.W.Frag) : Addr := pGl "Section" K
def v_tM (K : PySem.W.Frag) : Tok := pIc (PySem.W.findCls K (.ref (v_aZ K)) (.type "type") "MOST_COLUMNS")
def v_aLa (K : PySem.W.Frag) : Addr := pGl "Lay" K
def v_fILa (K : PySem.W.Frag) : Addr := pMe v_aLa "__init__" K
def v_fQLa (K : PySem.W.Frag) : Addr := pMe v_aLa "__eq__" K
def v_aCu (K : PySem.W.Frag) : Addr := pGl "Cut" K
def v_fICu (K : PySem.W.Frag) : Addr := pMe v_aCu "__init__" K
def v_fQCu (K : PySem.W.Frag) : Addr := pMe v_aCu "__eq__" K
def v_aDi (K : PySem.W.Frag) : Addr := pGl "Dike" K
def v_fIDi (K : PySem.W.Frag) : Addr := pMe v_aDi "__init__" K
def v_fQDi (K : PySem.W.Frag) : Addr := pMe v_aDi "__eq__" K
def v_aLi (K : PySem.W.Frag) : Addr := pGl "Lift" K
def v_fILi (K : PySem.W.Frag) : Addr := pMe v_aLi "__init__" K
def v_fQLi (K : PySem.W.Frag) : Addr := pMe v_aLi "__eq__" K
def v_aFa (K : PySem.W.Frag) : Addr := pGl "Fault" K
def v_fIFa (K : PySem.W.Frag) : Addr := pMe v_aFa "__init__" K
def v_fQFa (K : PySem.W.Frag) : Addr := pMe v_aFa "__eq__" K
def v_aTi (K : PySem.W.Frag) : Addr := pGl "Tilt" K
def v_fITi (K : PySem.W.Frag) : Addr := pMe v_aTi "__init__" K
def v_fQTi (K : PySem.W.Frag) : Addr := pMe v_aTi "__eq__" K
def v_aN (K : PySem.W.Frag) : Addr := pGl "InvalidName" K
def v_fIaN (K : PySem.W.Frag) : Addr := pMe v_aN "__init__" K
def v_aL (K : PySem.W.Frag) : Addr := pGl "InvalidLevel" K
def v_fIaL (K : PySem.W.Frag) : Addr := pMe v_aL "__init__" K
def v_aP (K : PySem.W.Frag) : Addr := pGl "NoColumn" K
def v_fIaP (K : PySem.W.Frag) : Addr := pMe v_aP "__init__" K
def v_aW (K : PySem.W.Frag) : Addr := pGl "WrongWidth" K
def v_fIaW (K : PySem.W.Frag) : Addr := pMe v_aW "__init__" K
def v_aKLa (K : PySem.W.Frag) : Addr := pRf (pKd K (v_fILa K))
def v_aKCu (K : PySem.W.Frag) : Addr := pRf (pKd K (v_fICu K))
def fnL : List FnP := [⟨v_f0, "is_name", "is_name", defArgs (topR 16), defBody (topR 16), defScope (topR 16)⟩, ⟨v_f1, "is_level", "is_level", defArgs (topR 17), defBody (topR 17), defScope (topR 17)⟩, ⟨v_f2, "is_index", "is_index", defArgs (topR 18), defBody (topR 18), defScope (topR 18)⟩, ⟨v_f3, "need_name", "need_name", defArgs (topR 19), defBody (topR 19), defScope (topR 19)⟩, ⟨v_f4, "need_level", "need_level", defArgs (topR 20), defBody (topR 20), defScope (topR 20)⟩, ⟨v_f5, "is_width", "is_width", defArgs (topR 38), defBody (topR 38), defScope (topR 38)⟩, ⟨v_f6, "need_column", "need_column", defArgs (topR 52), defBody (topR 52), defScope (topR 52)⟩, ⟨v_f7, "is_span", "is_span", defArgs (topR 53), defBody (topR 53), defScope (topR 53)⟩, ⟨v_f8, "need_span_or_none", "need_span_or_none", defArgs (topR 54), defBody (topR 54), defScope (topR 54)⟩, ⟨v_f9, "copied", "copied", defArgs (topR 2), defBody (topR 2), defScope (topR 2)⟩, ⟨v_f10, "_law_feed", "_law_feed", defArgs (topR 71), defBody (topR 71), defScope (topR 71)⟩, ⟨v_f11, "_law_draw", "_law_draw", defArgs (topR 72), defBody (topR 72), defScope (topR 72)⟩, ⟨v_f12, "_law_pick", "_law_pick", defArgs (topR 73), defBody (topR 73), defScope (topR 73)⟩, ⟨v_f13, "_law_any", "_law_any", defArgs (topR 74), defBody (topR 74), defScope (topR 74)⟩, ⟨v_f14, "_law_is_int", "_law_is_int", defArgs (topR 75), defBody (topR 75), defScope (topR 75)⟩, ⟨v_f15, "_law_is_word", "_law_is_word", defArgs (topR 76), defBody (topR 76), defScope (topR 76)⟩, ⟨v_f16, "_law_caught", "_law_caught", defArgs (topR 77), defBody (topR 77), defScope (topR 77)⟩, ⟨v_f17, "_law_looked", "_law_looked", defArgs (topR 78), defBody (topR 78), defScope (topR 78)⟩, ⟨v_f18, "_law_due_lift", "_law_due_lift", defArgs (topR 79), defBody (topR 79), defScope (topR 79)⟩, ⟨v_f19, "_law_some_lifts", "_law_some_lifts", defArgs (topR 80), defBody (topR 80), defScope (topR 80)⟩, ⟨v_f20, "law", "law", defArgs (topR 81), defBody (topR 81), defScope (topR 81)⟩, ⟨v_fILa, "__init__", "Lay.__init__", defArgs (inClass (topR 63) 0), defBody (inClass (topR 63) 0), defScope (inClass (topR 63) 0)⟩, ⟨v_fQLa, "__eq__", "Lay.__eq__", defArgs (inClass (topR 63) 2), defBody (inClass (topR 63) 2), defScope (inClass (topR 63) 2)⟩, ⟨v_fICu, "__init__", "Cut.__init__", defArgs (inClass (topR 64) 0), defBody (inClass (topR 64) 0), defScope (inClass (topR 64) 0)⟩, ⟨v_fQCu, "__eq__", "Cut.__eq__", defArgs (inClass (topR 64) 2), defBody (inClass (topR 64) 2), defScope (inClass (topR 64) 2)⟩, ⟨v_fIDi, "__init__", "Dike.__init__", defArgs (inClass (topR 65) 0), defBody (inClass (topR 65) 0), defScope (inClass (topR 65) 0)⟩, ⟨v_fQDi, "__eq__", "Dike.__eq__", defArgs (inClass (topR 65) 2), defBody (inClass (topR 65) 2), defScope (inClass (topR 65) 2)⟩, ⟨v_fILi, "__init__", "Lift.__init__", defArgs (inClass (topR 66) 0), defBody (inClass (topR 66) 0), defScope (inClass (topR 66) 0)⟩, ⟨v_fQLi, "__eq__", "Lift.__eq__", defArgs (inClass (topR 66) 3), defBody (inClass (topR 66) 3), defScope (inClass (topR 66) 3)⟩, ⟨v_fIFa, "__init__", "Fault.__init__", defArgs (inClass (topR 67) 0), defBody (inClass (topR 67) 0), defScope (inClass (topR 67) 0)⟩, ⟨v_fQFa, "__eq__", "Fault.__eq__", defArgs (inClass (topR 67) 2), defBody (inClass (topR 67) 2), defScope (inClass (topR 67) 2)⟩, ⟨v_fITi, "__init__", "Tilt.__init__", defArgs (inClass (topR 68) 0), defBody (inClass (topR 68) 0), defScope (inClass (topR 68) 0)⟩, ⟨v_fQTi, "__eq__", "Tilt.__eq__", defArgs (inClass (topR 68) 2), defBody (inClass (topR 68) 2), defScope (inClass (topR 68) 2)⟩, ⟨v_fIaN, "__init__", "InvalidName.__init__", defArgs (inClass (topR 3) 0), defBody (inClass (topR 3) 0), defScope (inClass (topR 3) 0)⟩, ⟨v_fIaL, "__init__", "InvalidLevel.__init__", defArgs (inClass (topR 4) 0), defBody (inClass (topR 4) 0), defScope (inClass (topR 4) 0)⟩, ⟨v_fIaP, "__init__", "NoColumn.__init__", defArgs (inClass (topR 11) 0), defBody (inClass (topR 11) 0), defScope (inClass (topR 11) 0)⟩, ⟨v_fIaW, "__init__", "WrongWidth.__init__", defArgs (inClass (topR 9) 0), defBody (inClass (topR 9) 0), defScope (inClass (topR 9) 0)⟩]
def fc0 (K : PySem.W.Frag) : Bool := decide (PySem.W.nsIn K mainGlobals "is_name" = some (some (.ref (v_f0 K)))) && (decide (PySem.W.keepIn K (.ref (v_f0 K)) = true) && (decide (PySem.W.nsIn K mainGlobals "is_level" = some (some (.ref (v_f1 K)))) && (decide (PySem.W.keepIn K (.ref (v_f1 K)) = true) && (decide (PySem.W.nsIn K mainGlobals "is_index" = some (some (.ref (v_f2 K)))) && (decide (PySem.W.keepIn K (.ref (v_f2 K)) = true) && (decide (PySem.W.nsIn K mainGlobals "need_name" = some (some (.ref (v_f3 K)))) && (decide (PySem.W.keepIn K (.ref (v_f3 K)) = true) && (decide (PySem.W.nsIn K mainGlobals "need_level" = some (some (.ref (v_f4 K)))) && (decide (PySem.W.keepIn K (.ref (v_f4 K)) = true) && (decide (PySem.W.nsIn K mainGlobals "is_width" = some (some (.ref (v_f5 K)))) && (decide (PySem.W.keepIn K (.ref (v_f5 K)) = true) && (decide (PySem.W.nsIn K mainGlobals "need_column" = some (some (.ref (v_f6 K)))) && (decide (PySem.W.keepIn K (.ref (v_f6 K)) = true) && (decide (PySem.W.nsIn K mainGlobals "is_span" = some (some (.ref (v_f7 K)))) && (decide (PySem.W.keepIn K (.ref (v_f7 K)) = true))))))))))))))))
theorem fc0_ok {K : PySem.W.Frag} (h : fc0 K = true) : (PySem.W.nsIn K mainGlobals "is_name" = some (some (.ref (v_f0 K)))) ∧ (PySem.W.keepIn K (.ref (v_f0 K)) = true) ∧ (PySem.W.nsIn K mainGlobals "is_level" = some (some (.ref (v_f1 K)))) ∧ (PySem.W.keepIn K (.ref (v_f1 K)) = true) ∧ (PySem.W.nsIn K mainGlobals "is_index" = some (some (.ref (v_f2 K)))) ∧ (PySem.W.keepIn K (.ref (v_f2 K)) = true) ∧ (PySem.W.nsIn K mainGlobals "need_name" = some (some (.ref (v_f3 K)))) ∧ (PySem.W.keepIn K (.ref (v_f3 K)) = true) ∧ (PySem.W.nsIn K mainGlobals "need_level" = some (some (.ref (v_f4 K)))) ∧ (PySem.W.keepIn K (.ref (v_f4 K)) = true) ∧ (PySem.W.nsIn K mainGlobals "is_width" = some (some (.ref (v_f5 K)))) ∧ (PySem.W.keepIn K (.ref (v_f5 K)) = true) ∧ (PySem.W.nsIn K mainGlobals "need_column" = some (some (.ref (v_f6 K)))) ∧ (PySem.W.keepIn K (.ref (v_f6 K)) = true) ∧ (PySem.W.nsIn K mainGlobals "is_span" = some (some (.ref (v_f7 K)))) ∧ (PySem.W.keepIn K (.ref (v_f7 K)) = true) := by
  obtain ⟨h0, h⟩ := He.ba h
  obtain ⟨h1, h⟩ := He.ba h
  obtain ⟨h2, h⟩ := He.ba h
  obtain ⟨h3, h⟩ := He.ba h
  obtain ⟨h4, h⟩ := He.ba h
  obtain ⟨h5, h⟩ := He.ba h
  obtain ⟨h6, h⟩ := He.ba h
  obtain ⟨h7, h⟩ := He.ba h
  obtain ⟨h8, h⟩ := He.ba h
  obtain ⟨h9, h⟩ := He.ba h
  obtain ⟨h10, h⟩ := He.ba h
  obtain ⟨h11, h⟩ := He.ba h
  obtain ⟨h12, h⟩ := He.ba h
  obtain ⟨h13, h⟩ := He.ba h
  obtain ⟨h14, h⟩ := He.ba h
  exact ⟨of_decide_eq_true h0, of_decide_eq_true h1, of_decide_eq_true h2, of_decide_eq_true h3, of_decide_eq_true h4, of_decide_eq_true h5, of_decide_eq_true h6, of_decide_eq_true h7, of_decide_eq_true h8, of_decide_eq_true h9, of_decide_eq_true h10, of_decide_eq_true h11, of_decide_eq_true h12, of_decide_eq_true h13, of_decide_eq_true h14, of_decide_eq_true h⟩
def fc1 (K : PySem.W.Frag) : Bool := decide (PySem.W.nsIn K mainGlobals "need_span_or_none" = some (some (.ref (v_f8 K)))) && (decide (PySem.W.keepIn K (.ref (v_f8 K)) = true) && (decide (PySem.W.nsIn K mainGlobals "copied" = some (some (.ref (v_f9 K)))) && (decide (PySem.W.keepIn K (.ref (v_f9 K)) = true) && (decide (PySem.W.nsIn K mainGlobals "_law_feed" = some (some (.ref (v_f10 K)))) && (decide (PySem.W.keepIn K (.ref (v_f10 K)) = true) && (decide (PySem.W.nsIn K mainGlobals "_law_draw" = some (some (.ref (v_f11 K)))) && (decide (PySem.W.keepIn K (.ref (v_f11 K)) = true) && (decide (PySem.W.nsIn K mainGlobals "_law_pick" = some (some (.ref (v_f12 K)))) && (decide (PySem.W.keepIn K (.ref (v_f12 K)) = true) && (decide (PySem.W.nsIn K mainGlobals "_law_any" = some (some (.ref (v_f13 K)))) && (decide (PySem.W.keepIn K (.ref (v_f13 K)) = true) && (decide (PySem.W.nsIn K mainGlobals "_law_is_int" = some (some (.ref (v_f14 K)))) && (decide (PySem.W.keepIn K (.ref (v_f14 K)) = true) && (decide (PySem.W.nsIn K mainGlobals "_law_is_word" = some (some (.ref (v_f15 K)))) && (decide (PySem.W.keepIn K (.ref (v_f15 K)) = true))))))))))))))))
theorem fc1_ok {K : PySem.W.Frag} (h : fc1 K = true) : (PySem.W.nsIn K mainGlobals "need_span_or_none" = some (some (.ref (v_f8 K)))) ∧ (PySem.W.keepIn K (.ref (v_f8 K)) = true) ∧ (PySem.W.nsIn K mainGlobals "copied" = some (some (.ref (v_f9 K)))) ∧ (PySem.W.keepIn K (.ref (v_f9 K)) = true) ∧ (PySem.W.nsIn K mainGlobals "_law_feed" = some (some (.ref (v_f10 K)))) ∧ (PySem.W.keepIn K (.ref (v_f10 K)) = true) ∧ (PySem.W.nsIn K mainGlobals "_law_draw" = some (some (.ref (v_f11 K)))) ∧ (PySem.W.keepIn K (.ref (v_f11 K)) = true) ∧ (PySem.W.nsIn K mainGlobals "_law_pick" = some (some (.ref (v_f12 K)))) ∧ (PySem.W.keepIn K (.ref (v_f12 K)) = true) ∧ (PySem.W.nsIn K mainGlobals "_law_any" = some (some (.ref (v_f13 K)))) ∧ (PySem.W.keepIn K (.ref (v_f13 K)) = true) ∧ (PySem.W.nsIn K mainGlobals "_law_is_int" = some (some (.ref (v_f14 K)))) ∧ (PySem.W.keepIn K (.ref (v_f14 K)) = true) ∧ (PySem.W.nsIn K mainGlobals "_law_is_word" = some (some (.ref (v_f15 K)))) ∧ (PySem.W.keepIn K (.ref (v_f15 K)) = true) := by
  obtain ⟨h0, h⟩ := He.ba h
  obtain ⟨h1, h⟩ := He.ba h
  obtain ⟨h2, h⟩ := He.ba h
  obtain ⟨h3, h⟩ := He.ba h
  obtain ⟨h4, h⟩ := He.ba h
  obtain ⟨h5, h⟩ := He.ba h
  obtain ⟨h6, h⟩ := He.ba h
  obtain ⟨h7, h⟩ := He.ba h
  obtain ⟨h8, h⟩ := He.ba h
  obtain ⟨h9, h⟩ := He.ba h
  obtain ⟨h10, h⟩ := He.ba h
  obtain ⟨h11, h⟩ := He.ba h
  obtain ⟨h12, h⟩ := He.ba h
  obtain ⟨h13, h⟩ := He.ba h
  obtain ⟨h14, h⟩ := He.ba h
  exact ⟨of_decide_eq_true h0, of_decide_eq_true h1, of_decide_eq_true h2, of_decide_eq_true h3, of_decide_eq_true h4, of_decide_eq_true h5, of_decide_eq_true h6, of_decide_eq_true h7, of_decide_eq_true h8, of_decide_eq_true h9, of_decide_eq_true h10, of_decide_eq_true h11, of_decide_eq_true h12, of_decide_eq_true h13, of_decide_eq_true h14, of_decide_eq_true h⟩
def fc2 (K : PySem.W.Frag) : Bool := decide (PySem.W.nsIn K mainGlobals "_law_caught" = some (some (.ref (v_f16 K)))) && (decide (PySem.W.keepIn K (.ref (v_f16 K)) = true) && (decide (PySem.W.nsIn K mainGlobals "_law_looked" = some (some (.ref (v_f17 K)))) && (decide (PySem.W.keepIn K (.ref (v_f17 K)) = true) && (decide (PySem.W.nsIn K mainGlobals "_law_due_lift" = some (some (.ref (v_f18 K)))) && (decide (PySem.W.keepIn K (.ref (v_f18 K)) = true) && (decide (PySem.W.nsIn K mainGlobals "_law_some_lifts" = some (some (.ref (v_f19 K)))) && (decide (PySem.W.keepIn K (.ref (v_f19 K)) = true) && (decide (PySem.W.nsIn K mainGlobals "law" = some (some (.ref (v_f20 K)))) && (decide (PySem.W.keepIn K (.ref (v_f20 K)) = true) && (decide (PySem.W.nsIn K mainGlobals "int" = some none) && (decide (PySem.W.nsIn K mainGlobals "len" = some none) && (decide (PySem.W.nsIn K mainGlobals "abs" = some none) && (decide (PySem.W.nsIn K mainGlobals "range" = some none) && (decide (PySem.W.nsIn K mainGlobals "tuple" = some none) && (decide (PySem.W.nsIn K mainGlobals "list" = some none))))))))))))))))
theorem fc2_ok {K : PySem.W.Frag} (h : fc2 K = true) : (PySem.W.nsIn K mainGlobals "_law_caught" = some (some (.ref (v_f16 K)))) ∧ (PySem.W.keepIn K (.ref (v_f16 K)) = true) ∧ (PySem.W.nsIn K mainGlobals "_law_looked" = some (some (.ref (v_f17 K)))) ∧ (PySem.W.keepIn K (.ref (v_f17 K)) = true) ∧ (PySem.W.nsIn K mainGlobals "_law_due_lift" = some (some (.ref (v_f18 K)))) ∧ (PySem.W.keepIn K (.ref (v_f18 K)) = true) ∧ (PySem.W.nsIn K mainGlobals "_law_some_lifts" = some (some (.ref (v_f19 K)))) ∧ (PySem.W.keepIn K (.ref (v_f19 K)) = true) ∧ (PySem.W.nsIn K mainGlobals "law" = some (some (.ref (v_f20 K)))) ∧ (PySem.W.keepIn K (.ref (v_f20 K)) = true) ∧ (PySem.W.nsIn K mainGlobals "int" = some none) ∧ (PySem.W.nsIn K mainGlobals "len" = some none) ∧ (PySem.W.nsIn K mainGlobals "abs" = some none) ∧ (PySem.W.nsIn K mainGlobals "range" = some none) ∧ (PySem.W.nsIn K mainGlobals "tuple" = some none) ∧ (PySem.W.nsIn K mainGlobals "list" = some none) := by
  obtain ⟨h0, h⟩ := He.ba h
  obtain ⟨h1, h⟩ := He.ba h
  obtain ⟨h2, h⟩ := He.ba h
  obtain ⟨h3, h⟩ := He.ba h
  obtain ⟨h4, h⟩ := He.ba h
  obtain ⟨h5, h⟩ := He.ba h
  obtain ⟨h6, h⟩ := He.ba h
  obtain ⟨h7, h⟩ := He.ba h
  obtain ⟨h8, h⟩ := He.ba h
  obtain ⟨h9, h⟩ := He.ba h
  obtain ⟨h10, h⟩ := He.ba h
  obtain ⟨h11, h⟩ := He.ba h
  obtain ⟨h12, h⟩ := He.ba h
  obtain ⟨h13, h⟩ := He.ba h
  obtain ⟨h14, h⟩ := He.ba h
  exact ⟨of_decide_eq_true h0, of_decide_eq_true h1, of_decide_eq_true h2, of_decide_eq_true h3, of_decide_eq_true h4, of_decide_eq_true h5, of_decide_eq_true h6, of_decide_eq_true h7, of_decide_eq_true h8, of_decide_eq_true h9, of_decide_eq_true h10, of_decide_eq_true h11, of_decide_eq_true h12, of_decide_eq_true h13, of_decide_eq_true h14, of_decide_eq_true h⟩
def fc3 (K : PySem.W.Frag) : Bool := decide (PySem.W.nsIn K mainGlobals "str" = some none) && (decide (PySem.W.nsIn K mainGlobals "bool" = some none) && (decide (PySem.W.nsIn K mainGlobals "isinstance" = some none) && (decide (PySem.W.nsIn K mainGlobals "all" = some none) && (decide (PySem.W.nsIn K mainGlobals "any" = some none) && (decide (PySem.W.nsIn K mainGlobals "min" = some none) && (decide (PySem.W.nsIn K mainGlobals "sum" = some none) && (decide (PySem.W.nsIn K mainGlobals "zip" = some none) && (decide (PySem.W.nsIn K mainGlobals "dict" = some none) && (decide (PySem.W.nsIn K mainGlobals "repr" = some none) && (decide (PySem.W.nsIn K mainGlobals "IndexError" = some none) && (decide (PySem.W.tabIn K "law" = some ((v_cL K), (v_Pt K))) && (decide (PySem.W.nsIn K mainGlobals "LONGEST_NAME" = some (some (.int 8 (v_tLONGEST_NAME K)))) && (decide (PySem.W.nsIn K mainGlobals "Section" = some (some (.ref (v_aZ K)))) && (decide (PySem.W.readsIn K (v_aZ K) (.type "type") = true) && (decide (PySem.W.specialIn K (.ref (v_aZ K)) "__getattribute__" = some (some (.builtin "type.__getattribute__"))))))))))))))))))
theorem fc3_ok {K : PySem.W.Frag} (h : fc3 K = true) : (PySem.W.nsIn K mainGlobals "str" = some none) ∧ (PySem.W.nsIn K mainGlobals "bool" = some none) ∧ (PySem.W.nsIn K mainGlobals "isinstance" = some none) ∧ (PySem.W.nsIn K mainGlobals "all" = some none) ∧ (PySem.W.nsIn K mainGlobals "any" = some none) ∧ (PySem.W.nsIn K mainGlobals "min" = some none) ∧ (PySem.W.nsIn K mainGlobals "sum" = some none) ∧ (PySem.W.nsIn K mainGlobals "zip" = some none) ∧ (PySem.W.nsIn K mainGlobals "dict" = some none) ∧ (PySem.W.nsIn K mainGlobals "repr" = some none) ∧ (PySem.W.nsIn K mainGlobals "IndexError" = some none) ∧ (PySem.W.tabIn K "law" = some ((v_cL K), (v_Pt K))) ∧ (PySem.W.nsIn K mainGlobals "LONGEST_NAME" = some (some (.int 8 (v_tLONGEST_NAME K)))) ∧ (PySem.W.nsIn K mainGlobals "Section" = some (some (.ref (v_aZ K)))) ∧ (PySem.W.readsIn K (v_aZ K) (.type "type") = true) ∧ (PySem.W.specialIn K (.ref (v_aZ K)) "__getattribute__" = some (some (.builtin "type.__getattribute__"))) := by
  obtain ⟨h0, h⟩ := He.ba h
  obtain ⟨h1, h⟩ := He.ba h
  obtain ⟨h2, h⟩ := He.ba h
  obtain ⟨h3, h⟩ := He.ba h
  obtain ⟨h4, h⟩ := He.ba h
  obtain ⟨h5, h⟩ := He.ba h
  obtain ⟨h6, h⟩ := He.ba h
  obtain ⟨h7, h⟩ := He.ba h
  obtain ⟨h8, h⟩ := He.ba h
  obtain ⟨h9, h⟩ := He.ba h
  obtain ⟨h10, h⟩ := He.ba h
  obtain ⟨h11, h⟩ := He.ba h
  obtain ⟨h12, h⟩ := He.ba h
  obtain ⟨h13, h⟩ := He.ba h
  obtain ⟨h14, h⟩ := He.ba h
  exact ⟨of_decide_eq_true h0, of_decide_eq_true h1, of_decide_eq_true h2, of_decide_eq_true h3, of_decide_eq_true h4, of_decide_eq_true h5, of_decide_eq_true h6, of_decide_eq_true h7, of_decide_eq_true h8, of_decide_eq_true h9, of_decide_eq_true h10, of_decide_eq_true h11, of_decide_eq_true h12, of_decide_eq_true h13, of_decide_eq_true h14, of_decide_eq_true h⟩
def fc4 (K : PySem.W.Frag) : Bool := decide (DL.cfV (PySem.W.findCls K (.ref (v_aZ K)) (.type "type") "MOST_COLUMNS") = some (.int 12 (v_tM K))) && (decide (PySem.W.specialIn K (.builtin "object.__class__") "__get__" = some (some (.builtin "getset_descriptor.__get__"))) && (decide (PySem.W.takesIn K (.builtin "object.__class__") = some true) && (decide (PySem.W.nsIn K mainGlobals "Lay" = some (some (.ref (v_aLa K)))) && (decide (PySem.W.plainGet K (v_aLa K) Str.empty = true) && (decide (PySem.W.hasDictIn K (v_aLa K) = true) && (decide (PySem.W.plainOver K (v_aLa K) = true) && (decide (PySem.W.findIn K (.ref (v_aLa K)) "__setattr__" = some (some (.builtin "object.__setattr__"))) && (decide (PySem.W.makesIn K (v_aLa K) = true) && (decide (PySem.W.keepIn K (.ref (v_aLa K)) = true) && (decide (PySem.W.findIn K (.ref (v_aLa K)) "__class__" = some (some (.builtin "object.__class__"))) && (decide (PySem.W.mroIn K (v_aLa K) (.type "object") = some true) && (decide (PySem.W.isClsIn K (v_aLa K) = true) && (decide (PySem.W.typeIn K (.ref (v_aLa K)) = some (.type "type")) && (decide (PySem.W.subIn K (.ref (v_aLa K)) (.type "NoneType") = some false) && (decide (PySem.W.subIn K (.ref (v_aLa K)) (.type "bool") = some false))))))))))))))))
theorem fc4_ok {K : PySem.W.Frag} (h : fc4 K = true) : (DL.cfV (PySem.W.findCls K (.ref (v_aZ K)) (.type "type") "MOST_COLUMNS") = some (.int 12 (v_tM K))) ∧ (PySem.W.specialIn K (.builtin "object.__class__") "__get__" = some (some (.builtin "getset_descriptor.__get__"))) ∧ (PySem.W.takesIn K (.builtin "object.__class__") = some true) ∧ (PySem.W.nsIn K mainGlobals "Lay" = some (some (.ref (v_aLa K)))) ∧ (PySem.W.plainGet K (v_aLa K) Str.empty = true) ∧ (PySem.W.hasDictIn K (v_aLa K) = true) ∧ (PySem.W.plainOver K (v_aLa K) = true) ∧ (PySem.W.findIn K (.ref (v_aLa K)) "__setattr__" = some (some (.builtin "object.__setattr__"))) ∧ (PySem.W.makesIn K (v_aLa K) = true) ∧ (PySem.W.keepIn K (.ref (v_aLa K)) = true) ∧ (PySem.W.findIn K (.ref (v_aLa K)) "__class__" = some (some (.builtin "object.__class__"))) ∧ (PySem.W.mroIn K (v_aLa K) (.type "object") = some true) ∧ (PySem.W.isClsIn K (v_aLa K) = true) ∧ (PySem.W.typeIn K (.ref (v_aLa K)) = some (.type "type")) ∧ (PySem.W.subIn K (.ref (v_aLa K)) (.type "NoneType") = some false) ∧ (PySem.W.subIn K (.ref (v_aLa K)) (.type "bool") = some false) := by
  obtain ⟨h0, h⟩ := He.ba h
  obtain ⟨h1, h⟩ := He.ba h
  obtain ⟨h2, h⟩ := He.ba h
  obtain ⟨h3, h⟩ := He.ba h
  obtain ⟨h4, h⟩ := He.ba h
  obtain ⟨h5, h⟩ := He.ba h
  obtain ⟨h6, h⟩ := He.ba h
  obtain ⟨h7, h⟩ := He.ba h
  obtain ⟨h8, h⟩ := He.ba h
  obtain ⟨h9, h⟩ := He.ba h
  obtain ⟨h10, h⟩ := He.ba h
  obtain ⟨h11, h⟩ := He.ba h
  obtain ⟨h12, h⟩ := He.ba h
  obtain ⟨h13, h⟩ := He.ba h
  obtain ⟨h14, h⟩ := He.ba h
  exact ⟨of_decide_eq_true h0, of_decide_eq_true h1, of_decide_eq_true h2, of_decide_eq_true h3, of_decide_eq_true h4, of_decide_eq_true h5, of_decide_eq_true h6, of_decide_eq_true h7, of_decide_eq_true h8, of_decide_eq_true h9, of_decide_eq_true h10, of_decide_eq_true h11, of_decide_eq_true h12, of_decide_eq_true h13, of_decide_eq_true h14, of_decide_eq_true h⟩
def fc5 (K : PySem.W.Frag) : Bool := decide (PySem.W.subIn K (.ref (v_aLa K)) (.type "int") = some false) && (decide (PySem.W.subIn K (.ref (v_aLa K)) (.type "str") = some false) && (decide (PySem.W.subIn K (.ref (v_aLa K)) (.type "list") = some false) && (decide (PySem.W.subIn K (.ref (v_aLa K)) (.type "tuple") = some false) && (decide (PySem.W.subIn K (.ref (v_aLa K)) (.type "dict") = some false) && (decide (PySem.W.findIn K (.ref (v_aLa K)) "__init__" = some (some (.ref (v_fILa K)))) && (decide (PySem.W.isFn K (.ref (v_fILa K)) = true) && (decide (PySem.W.keepIn K (.ref (v_fILa K)) = true) && (decide (PySem.W.nsIn K (v_aKLa K) "span" = some (some .none)) && (decide (PySem.W.findIn K (.ref (v_aLa K)) "__eq__" = some (some (.ref (v_fQLa K)))) && (decide (PySem.W.isFn K (.ref (v_fQLa K)) = true) && (decide (PySem.W.keepIn K (.ref (v_fQLa K)) = true) && (decide (PySem.W.findIn K (.ref (v_aLa K)) "__ne__" = some (some (.builtin "object.__ne__"))) && (decide (PySem.W.findIn K (.ref (v_aLa K)) "item" = some none) && (decide (PySem.W.findIn K (.ref (v_aLa K)) "level" = some none) && (decide (PySem.W.findIn K (.ref (v_aLa K)) "span" = some none))))))))))))))))
theorem fc5_ok {K : PySem.W.Frag} (h : fc5 K = true) : (PySem.W.subIn K (.ref (v_aLa K)) (.type "int") = some false) ∧ (PySem.W.subIn K (.ref (v_aLa K)) (.type "str") = some false) ∧ (PySem.W.subIn K (.ref (v_aLa K)) (.type "list") = some false) ∧ (PySem.W.subIn K (.ref (v_aLa K)) (.type "tuple") = some false) ∧ (PySem.W.subIn K (.ref (v_aLa K)) (.type "dict") = some false) ∧ (PySem.W.findIn K (.ref (v_aLa K)) "__init__" = some (some (.ref (v_fILa K)))) ∧ (PySem.W.isFn K (.ref (v_fILa K)) = true) ∧ (PySem.W.keepIn K (.ref (v_fILa K)) = true) ∧ (PySem.W.nsIn K (v_aKLa K) "span" = some (some .none)) ∧ (PySem.W.findIn K (.ref (v_aLa K)) "__eq__" = some (some (.ref (v_fQLa K)))) ∧ (PySem.W.isFn K (.ref (v_fQLa K)) = true) ∧ (PySem.W.keepIn K (.ref (v_fQLa K)) = true) ∧ (PySem.W.findIn K (.ref (v_aLa K)) "__ne__" = some (some (.builtin "object.__ne__"))) ∧ (PySem.W.findIn K (.ref (v_aLa K)) "item" = some none) ∧ (PySem.W.findIn K (.ref (v_aLa K)) "level" = some none) ∧ (PySem.W.findIn K (.ref (v_aLa K)) "span" = some none) := by
  obtain ⟨h0, h⟩ := He.ba h
  obtain ⟨h1, h⟩ := He.ba h
  obtain ⟨h2, h⟩ := He.ba h
  obtain ⟨h3, h⟩ := He.ba h
  obtain ⟨h4, h⟩ := He.ba h
  obtain ⟨h5, h⟩ := He.ba h
  obtain ⟨h6, h⟩ := He.ba h
  obtain ⟨h7, h⟩ := He.ba h
  obtain ⟨h8, h⟩ := He.ba h
  obtain ⟨h9, h⟩ := He.ba h
  obtain ⟨h10, h⟩ := He.ba h
  obtain ⟨h11, h⟩ := He.ba h
  obtain ⟨h12, h⟩ := He.ba h
  obtain ⟨h13, h⟩ := He.ba h
  obtain ⟨h14, h⟩ := He.ba h
  exact ⟨of_decide_eq_true h0, of_decide_eq_true h1, of_decide_eq_true h2, of_decide_eq_true h3, of_decide_eq_true h4, of_decide_eq_true h5, of_decide_eq_true h6, of_decide_eq_true h7, of_decide_eq_true h8, of_decide_eq_true h9, of_decide_eq_true h10, of_decide_eq_true h11, of_decide_eq_true h12, of_decide_eq_true h13, of_decide_eq_true h14, of_decide_eq_true h⟩
def fc6 (K : PySem.W.Frag) : Bool := decide (PySem.W.findIn K (.ref (v_aLa K)) "at" = some none) && (decide (PySem.W.findIn K (.ref (v_aLa K)) "throw" = some none) && (decide (PySem.W.findIn K (.ref (v_aLa K)) "slope" = some none) && (decide (PySem.W.findIn K (.ref (v_aLa K)) "_lifts" = some none) && (decide (PySem.W.nsIn K mainGlobals "Cut" = some (some (.ref (v_aCu K)))) && (decide (PySem.W.plainGet K (v_aCu K) Str.empty = true) && (decide (PySem.W.hasDictIn K (v_aCu K) = true) && (decide (PySem.W.plainOver K (v_aCu K) = true) && (decide (PySem.W.findIn K (.ref (v_aCu K)) "__setattr__" = some (some (.builtin "object.__setattr__"))) && (decide (PySem.W.makesIn K (v_aCu K) = true) && (decide (PySem.W.keepIn K (.ref (v_aCu K)) = true) && (decide (PySem.W.findIn K (.ref (v_aCu K)) "__class__" = some (some (.builtin "object.__class__"))) && (decide (PySem.W.mroIn K (v_aCu K) (.type "object") = some true) && (decide (PySem.W.isClsIn K (v_aCu K) = true) && (decide (PySem.W.typeIn K (.ref (v_aCu K)) = some (.type "type")) && (decide (PySem.W.subIn K (.ref (v_aCu K)) (.type "NoneType") = some false))))))))))))))))
theorem fc6_ok {K : PySem.W.Frag} (h : fc6 K = true) : (PySem.W.findIn K (.ref (v_aLa K)) "at" = some none) ∧ (PySem.W.findIn K (.ref (v_aLa K)) "throw" = some none) ∧ (PySem.W.findIn K (.ref (v_aLa K)) "slope" = some none) ∧ (PySem.W.findIn K (.ref (v_aLa K)) "_lifts" = some none) ∧ (PySem.W.nsIn K mainGlobals "Cut" = some (some (.ref (v_aCu K)))) ∧ (PySem.W.plainGet K (v_aCu K) Str.empty = true) ∧ (PySem.W.hasDictIn K (v_aCu K) = true) ∧ (PySem.W.plainOver K (v_aCu K) = true) ∧ (PySem.W.findIn K (.ref (v_aCu K)) "__setattr__" = some (some (.builtin "object.__setattr__"))) ∧ (PySem.W.makesIn K (v_aCu K) = true) ∧ (PySem.W.keepIn K (.ref (v_aCu K)) = true) ∧ (PySem.W.findIn K (.ref (v_aCu K)) "__class__" = some (some (.builtin "object.__class__"))) ∧ (PySem.W.mroIn K (v_aCu K) (.type "object") = some true) ∧ (PySem.W.isClsIn K (v_aCu K) = true) ∧ (PySem.W.typeIn K (.ref (v_aCu K)) = some (.type "type")) ∧ (PySem.W.subIn K (.ref (v_aCu K)) (.type "NoneType") = some false) := by
  obtain ⟨h0, h⟩ := He.ba h
  obtain ⟨h1, h⟩ := He.ba h
  obtain ⟨h2, h⟩ := He.ba h
  obtain ⟨h3, h⟩ := He.ba h
  obtain ⟨h4, h⟩ := He.ba h
  obtain ⟨h5, h⟩ := He.ba h
  obtain ⟨h6, h⟩ := He.ba h
  obtain ⟨h7, h⟩ := He.ba h
  obtain ⟨h8, h⟩ := He.ba h
  obtain ⟨h9, h⟩ := He.ba h
  obtain ⟨h10, h⟩ := He.ba h
  obtain ⟨h11, h⟩ := He.ba h
  obtain ⟨h12, h⟩ := He.ba h
  obtain ⟨h13, h⟩ := He.ba h
  obtain ⟨h14, h⟩ := He.ba h
  exact ⟨of_decide_eq_true h0, of_decide_eq_true h1, of_decide_eq_true h2, of_decide_eq_true h3, of_decide_eq_true h4, of_decide_eq_true h5, of_decide_eq_true h6, of_decide_eq_true h7, of_decide_eq_true h8, of_decide_eq_true h9, of_decide_eq_true h10, of_decide_eq_true h11, of_decide_eq_true h12, of_decide_eq_true h13, of_decide_eq_true h14, of_decide_eq_true h⟩
def fc7 (K : PySem.W.Frag) : Bool := decide (PySem.W.subIn K (.ref (v_aCu K)) (.type "bool") = some false) && (decide (PySem.W.subIn K (.ref (v_aCu K)) (.type "int") = some false) && (decide (PySem.W.subIn K (.ref (v_aCu K)) (.type "str") = some false) && (decide (PySem.W.subIn K (.ref (v_aCu K)) (.type "list") = some false) && (decide (PySem.W.subIn K (.ref (v_aCu K)) (.type "tuple") = some false) && (decide (PySem.W.subIn K (.ref (v_aCu K)) (.type "dict") = some false) && (decide (PySem.W.findIn K (.ref (v_aCu K)) "__init__" = some (some (.ref (v_fICu K)))) && (decide (PySem.W.isFn K (.ref (v_fICu K)) = true) && (decide (PySem.W.keepIn K (.ref (v_fICu K)) = true) && (decide (PySem.W.nsIn K (v_aKCu K) "span" = some (some .none)) && (decide (PySem.W.findIn K (.ref (v_aCu K)) "__eq__" = some (some (.ref (v_fQCu K)))) && (decide (PySem.W.isFn K (.ref (v_fQCu K)) = true) && (decide (PySem.W.keepIn K (.ref (v_fQCu K)) = true) && (decide (PySem.W.findIn K (.ref (v_aCu K)) "__ne__" = some (some (.builtin "object.__ne__"))) && (decide (PySem.W.findIn K (.ref (v_aCu K)) "item" = some none) && (decide (PySem.W.findIn K (.ref (v_aCu K)) "level" = some none))))))))))))))))
theorem fc7_ok {K : PySem.W.Frag} (h : fc7 K = true) : (PySem.W.subIn K (.ref (v_aCu K)) (.type "bool") = some false) ∧ (PySem.W.subIn K (.ref (v_aCu K)) (.type "int") = some false) ∧ (PySem.W.subIn K (.ref (v_aCu K)) (.type "str") = some false) ∧ (PySem.W.subIn K (.ref (v_aCu K)) (.type "list") = some false) ∧ (PySem.W.subIn K (.ref (v_aCu K)) (.type "tuple") = some false) ∧ (PySem.W.subIn K (.ref (v_aCu K)) (.type "dict") = some false) ∧ (PySem.W.findIn K (.ref (v_aCu K)) "__init__" = some (some (.ref (v_fICu K)))) ∧ (PySem.W.isFn K (.ref (v_fICu K)) = true) ∧ (PySem.W.keepIn K (.ref (v_fICu K)) = true) ∧ (PySem.W.nsIn K (v_aKCu K) "span" = some (some .none)) ∧ (PySem.W.findIn K (.ref (v_aCu K)) "__eq__" = some (some (.ref (v_fQCu K)))) ∧ (PySem.W.isFn K (.ref (v_fQCu K)) = true) ∧ (PySem.W.keepIn K (.ref (v_fQCu K)) = true) ∧ (PySem.W.findIn K (.ref (v_aCu K)) "__ne__" = some (some (.builtin "object.__ne__"))) ∧ (PySem.W.findIn K (.ref (v_aCu K)) "item" = some none) ∧ (PySem.W.findIn K (.ref (v_aCu K)) "level" = some none) := by
  obtain ⟨h0, h⟩ := He.ba h
  obtain ⟨h1, h⟩ := He.ba h
  obtain ⟨h2, h⟩ := He.ba h
  obtain ⟨h3, h⟩ := He.ba h
  obtain ⟨h4, h⟩ := He.ba h
  obtain ⟨h5, h⟩ := He.ba h
  obtain ⟨h6, h⟩ := He.ba h
  obtain ⟨h7, h⟩ := He.ba h
  obtain ⟨h8, h⟩ := He.ba h
  obtain ⟨h9, h⟩ := He.ba h
  obtain ⟨h10, h⟩ := He.ba h
  obtain ⟨h11, h⟩ := He.ba h
  obtain ⟨h12, h⟩ := He.ba h
  obtain ⟨h13, h⟩ := He.ba h
  obtain ⟨h14, h⟩ := He.ba h
  exact ⟨of_decide_eq_true h0, of_decide_eq_true h1, of_decide_eq_true h2, of_decide_eq_true h3, of_decide_eq_true h4, of_decide_eq_true h5, of_decide_eq_true h6, of_decide_eq_true h7, of_decide_eq_true h8, of_decide_eq_true h9, of_decide_eq_true h10, of_decide_eq_true h11, of_decide_eq_true h12, of_decide_eq_true h13, of_decide_eq_true h14, of_decide_eq_true h⟩
def fc8 (K : PySem.W.Frag) : Bool := decide (PySem.W.findIn K (.ref (v_aCu K)) "span" = some none) && (decide (PySem.W.findIn K (.ref (v_aCu K)) "at" = some none) && (decide (PySem.W.findIn K (.ref (v_aCu K)) "throw" = some none) && (decide (PySem.W.findIn K (.ref (v_aCu K)) "slope" = some none) && (decide (PySem.W.findIn K (.ref (v_aCu K)) "_lifts" = some none) && (decide (PySem.W.nsIn K mainGlobals "Dike" = some (some (.ref (v_aDi K)))) && (decide (PySem.W.plainGet K (v_aDi K) Str.empty = true) && (decide (PySem.W.hasDictIn K (v_aDi K) = true) && (decide (PySem.W.plainOver K (v_aDi K) = true) && (decide (PySem.W.findIn K (.ref (v_aDi K)) "__setattr__" = some (some (.builtin "object.__setattr__"))) && (decide (PySem.W.makesIn K (v_aDi K) = true) && (decide (PySem.W.keepIn K (.ref (v_aDi K)) = true) && (decide (PySem.W.findIn K (.ref (v_aDi K)) "__class__" = some (some (.builtin "object.__class__"))) && (decide (PySem.W.mroIn K (v_aDi K) (.type "object") = some true) && (decide (PySem.W.isClsIn K (v_aDi K) = true) && (decide (PySem.W.typeIn K (.ref (v_aDi K)) = some (.type "type")))))))))))))))))
theorem fc8_ok {K : PySem.W.Frag} (h : fc8 K = true) : (PySem.W.findIn K (.ref (v_aCu K)) "span" = some none) ∧ (PySem.W.findIn K (.ref (v_aCu K)) "at" = some none) ∧ (PySem.W.findIn K (.ref (v_aCu K)) "throw" = some none) ∧ (PySem.W.findIn K (.ref (v_aCu K)) "slope" = some none) ∧ (PySem.W.findIn K (.ref (v_aCu K)) "_lifts" = some none) ∧ (PySem.W.nsIn K mainGlobals "Dike" = some (some (.ref (v_aDi K)))) ∧ (PySem.W.plainGet K (v_aDi K) Str.empty = true) ∧ (PySem.W.hasDictIn K (v_aDi K) = true) ∧ (PySem.W.plainOver K (v_aDi K) = true) ∧ (PySem.W.findIn K (.ref (v_aDi K)) "__setattr__" = some (some (.builtin "object.__setattr__"))) ∧ (PySem.W.makesIn K (v_aDi K) = true) ∧ (PySem.W.keepIn K (.ref (v_aDi K)) = true) ∧ (PySem.W.findIn K (.ref (v_aDi K)) "__class__" = some (some (.builtin "object.__class__"))) ∧ (PySem.W.mroIn K (v_aDi K) (.type "object") = some true) ∧ (PySem.W.isClsIn K (v_aDi K) = true) ∧ (PySem.W.typeIn K (.ref (v_aDi K)) = some (.type "type")) := by
  obtain ⟨h0, h⟩ := He.ba h
  obtain ⟨h1, h⟩ := He.ba h
  obtain ⟨h2, h⟩ := He.ba h
  obtain ⟨h3, h⟩ := He.ba h
  obtain ⟨h4, h⟩ := He.ba h
  obtain ⟨h5, h⟩ := He.ba h
  obtain ⟨h6, h⟩ := He.ba h
  obtain ⟨h7, h⟩ := He.ba h
  obtain ⟨h8, h⟩ := He.ba h
  obtain ⟨h9, h⟩ := He.ba h
  obtain ⟨h10, h⟩ := He.ba h
  obtain ⟨h11, h⟩ := He.ba h
  obtain ⟨h12, h⟩ := He.ba h
  obtain ⟨h13, h⟩ := He.ba h
  obtain ⟨h14, h⟩ := He.ba h
  exact ⟨of_decide_eq_true h0, of_decide_eq_true h1, of_decide_eq_true h2, of_decide_eq_true h3, of_decide_eq_true h4, of_decide_eq_true h5, of_decide_eq_true h6, of_decide_eq_true h7, of_decide_eq_true h8, of_decide_eq_true h9, of_decide_eq_true h10, of_decide_eq_true h11, of_decide_eq_true h12, of_decide_eq_true h13, of_decide_eq_true h14, of_decide_eq_true h⟩
def fc9 (K : PySem.W.Frag) : Bool := decide (PySem.W.subIn K (.ref (v_aDi K)) (.type "NoneType") = some false) && (decide (PySem.W.subIn K (.ref (v_aDi K)) (.type "bool") = some false) && (decide (PySem.W.subIn K (.ref (v_aDi K)) (.type "int") = some false) && (decide (PySem.W.subIn K (.ref (v_aDi K)) (.type "str") = some false) && (decide (PySem.W.subIn K (.ref (v_aDi K)) (.type "list") = some false) && (decide (PySem.W.subIn K (.ref (v_aDi K)) (.type "tuple") = some false) && (decide (PySem.W.subIn K (.ref (v_aDi K)) (.type "dict") = some false) && (decide (PySem.W.findIn K (.ref (v_aDi K)) "__init__" = some (some (.ref (v_fIDi K)))) && (decide (PySem.W.isFn K (.ref (v_fIDi K)) = true) && (decide (PySem.W.keepIn K (.ref (v_fIDi K)) = true) && (decide (PySem.W.findIn K (.ref (v_aDi K)) "__eq__" = some (some (.ref (v_fQDi K)))) && (decide (PySem.W.isFn K (.ref (v_fQDi K)) = true) && (decide (PySem.W.keepIn K (.ref (v_fQDi K)) = true) && (decide (PySem.W.findIn K (.ref (v_aDi K)) "__ne__" = some (some (.builtin "object.__ne__"))) && (decide (PySem.W.findIn K (.ref (v_aDi K)) "item" = some none) && (decide (PySem.W.findIn K (.ref (v_aDi K)) "level" = some none))))))))))))))))
theorem fc9_ok {K : PySem.W.Frag} (h : fc9 K = true) : (PySem.W.subIn K (.ref (v_aDi K)) (.type "NoneType") = some false) ∧ (PySem.W.subIn K (.ref (v_aDi K)) (.type "bool") = some false) ∧ (PySem.W.subIn K (.ref (v_aDi K)) (.type "int") = some false) ∧ (PySem.W.subIn K (.ref (v_aDi K)) (.type "str") = some false) ∧ (PySem.W.subIn K (.ref (v_aDi K)) (.type "list") = some false) ∧ (PySem.W.subIn K (.ref (v_aDi K)) (.type "tuple") = some false) ∧ (PySem.W.subIn K (.ref (v_aDi K)) (.type "dict") = some false) ∧ (PySem.W.findIn K (.ref (v_aDi K)) "__init__" = some (some (.ref (v_fIDi K)))) ∧ (PySem.W.isFn K (.ref (v_fIDi K)) = true) ∧ (PySem.W.keepIn K (.ref (v_fIDi K)) = true) ∧ (PySem.W.findIn K (.ref (v_aDi K)) "__eq__" = some (some (.ref (v_fQDi K)))) ∧ (PySem.W.isFn K (.ref (v_fQDi K)) = true) ∧ (PySem.W.keepIn K (.ref (v_fQDi K)) = true) ∧ (PySem.W.findIn K (.ref (v_aDi K)) "__ne__" = some (some (.builtin "object.__ne__"))) ∧ (PySem.W.findIn K (.ref (v_aDi K)) "item" = some none) ∧ (PySem.W.findIn K (.ref (v_aDi K)) "level" = some none) := by
  obtain ⟨h0, h⟩ := He.ba h
  obtain ⟨h1, h⟩ := He.ba h
  obtain ⟨h2, h⟩ := He.ba h
  obtain ⟨h3, h⟩ := He.ba h
  obtain ⟨h4, h⟩ := He.ba h
  obtain ⟨h5, h⟩ := He.ba h
  obtain ⟨h6, h⟩ := He.ba h
  obtain ⟨h7, h⟩ := He.ba h
  obtain ⟨h8, h⟩ := He.ba h
  obtain ⟨h9, h⟩ := He.ba h
  obtain ⟨h10, h⟩ := He.ba h
  obtain ⟨h11, h⟩ := He.ba h
  obtain ⟨h12, h⟩ := He.ba h
  obtain ⟨h13, h⟩ := He.ba h
  obtain ⟨h14, h⟩ := He.ba h
  exact ⟨of_decide_eq_true h0, of_decide_eq_true h1, of_decide_eq_true h2, of_decide_eq_true h3, of_decide_eq_true h4, of_decide_eq_true h5, of_decide_eq_true h6, of_decide_eq_true h7, of_decide_eq_true h8, of_decide_eq_true h9, of_decide_eq_true h10, of_decide_eq_true h11, of_decide_eq_true h12, of_decide_eq_true h13, of_decide_eq_true h14, of_decide_eq_true h⟩
def fc10 (K : PySem.W.Frag) : Bool := decide (PySem.W.findIn K (.ref (v_aDi K)) "span" = some none) && (decide (PySem.W.findIn K (.ref (v_aDi K)) "at" = some none) && (decide (PySem.W.findIn K (.ref (v_aDi K)) "throw" = some none) && (decide (PySem.W.findIn K (.ref (v_aDi K)) "slope" = some none) && (decide (PySem.W.findIn K (.ref (v_aDi K)) "_lifts" = some none) && (decide (PySem.W.nsIn K mainGlobals "Lift" = some (some (.ref (v_aLi K)))) && (decide (PySem.W.plainGet K (v_aLi K) Str.empty = true) && (decide (PySem.W.hasDictIn K (v_aLi K) = true) && (decide (PySem.W.plainOver K (v_aLi K) = true) && (decide (PySem.W.findIn K (.ref (v_aLi K)) "__setattr__" = some (some (.builtin "object.__setattr__"))) && (decide (PySem.W.makesIn K (v_aLi K) = true) && (decide (PySem.W.keepIn K (.ref (v_aLi K)) = true) && (decide (PySem.W.findIn K (.ref (v_aLi K)) "__class__" = some (some (.builtin "object.__class__"))) && (decide (PySem.W.mroIn K (v_aLi K) (.type "object") = some true) && (decide (PySem.W.isClsIn K (v_aLi K) = true) && (decide (PySem.W.typeIn K (.ref (v_aLi K)) = some (.type "type")))))))))))))))))
theorem fc10_ok {K : PySem.W.Frag} (h : fc10 K = true) : (PySem.W.findIn K (.ref (v_aDi K)) "span" = some none) ∧ (PySem.W.findIn K (.ref (v_aDi K)) "at" = some none) ∧ (PySem.W.findIn K (.ref (v_aDi K)) "throw" = some none) ∧ (PySem.W.findIn K (.ref (v_aDi K)) "slope" = some none) ∧ (PySem.W.findIn K (.ref (v_aDi K)) "_lifts" = some none) ∧ (PySem.W.nsIn K mainGlobals "Lift" = some (some (.ref (v_aLi K)))) ∧ (PySem.W.plainGet K (v_aLi K) Str.empty = true) ∧ (PySem.W.hasDictIn K (v_aLi K) = true) ∧ (PySem.W.plainOver K (v_aLi K) = true) ∧ (PySem.W.findIn K (.ref (v_aLi K)) "__setattr__" = some (some (.builtin "object.__setattr__"))) ∧ (PySem.W.makesIn K (v_aLi K) = true) ∧ (PySem.W.keepIn K (.ref (v_aLi K)) = true) ∧ (PySem.W.findIn K (.ref (v_aLi K)) "__class__" = some (some (.builtin "object.__class__"))) ∧ (PySem.W.mroIn K (v_aLi K) (.type "object") = some true) ∧ (PySem.W.isClsIn K (v_aLi K) = true) ∧ (PySem.W.typeIn K (.ref (v_aLi K)) = some (.type "type")) := by
  obtain ⟨h0, h⟩ := He.ba h
  obtain ⟨h1, h⟩ := He.ba h
  obtain ⟨h2, h⟩ := He.ba h
  obtain ⟨h3, h⟩ := He.ba h
  obtain ⟨h4, h⟩ := He.ba h
  obtain ⟨h5, h⟩ := He.ba h
  obtain ⟨h6, h⟩ := He.ba h
  obtain ⟨h7, h⟩ := He.ba h
  obtain ⟨h8, h⟩ := He.ba h
  obtain ⟨h9, h⟩ := He.ba h
  obtain ⟨h10, h⟩ := He.ba h
  obtain ⟨h11, h⟩ := He.ba h
  obtain ⟨h12, h⟩ := He.ba h
  obtain ⟨h13, h⟩ := He.ba h
  obtain ⟨h14, h⟩ := He.ba h
  exact ⟨of_decide_eq_true h0, of_decide_eq_true h1, of_decide_eq_true h2, of_decide_eq_true h3, of_decide_eq_true h4, of_decide_eq_true h5, of_decide_eq_true h6, of_decide_eq_true h7, of_decide_eq_true h8, of_decide_eq_true h9, of_decide_eq_true h10, of_decide_eq_true h11, of_decide_eq_true h12, of_decide_eq_true h13, of_decide_eq_true h14, of_decide_eq_true h⟩
def fc11 (K : PySem.W.Frag) : Bool := decide (PySem.W.subIn K (.ref (v_aLi K)) (.type "NoneType") = some false) && (decide (PySem.W.subIn K (.ref (v_aLi K)) (.type "bool") = some false) && (decide (PySem.W.subIn K (.ref (v_aLi K)) (.type "int") = some false) && (decide (PySem.W.subIn K (.ref (v_aLi K)) (.type "str") = some false) && (decide (PySem.W.subIn K (.ref (v_aLi K)) (.type "list") = some false) && (decide (PySem.W.subIn K (.ref (v_aLi K)) (.type "tuple") = some false) && (decide (PySem.W.subIn K (.ref (v_aLi K)) (.type "dict") = some false) && (decide (PySem.W.findIn K (.ref (v_aLi K)) "__init__" = some (some (.ref (v_fILi K)))) && (decide (PySem.W.isFn K (.ref (v_fILi K)) = true) && (decide (PySem.W.keepIn K (.ref (v_fILi K)) = true) && (decide (PySem.W.findIn K (.ref (v_aLi K)) "__eq__" = some (some (.ref (v_fQLi K)))) && (decide (PySem.W.isFn K (.ref (v_fQLi K)) = true) && (decide (PySem.W.keepIn K (.ref (v_fQLi K)) = true) && (decide (PySem.W.findIn K (.ref (v_aLi K)) "__ne__" = some (some (.builtin "object.__ne__"))) && (decide (PySem.W.findIn K (.ref (v_aLi K)) "item" = some none) && (decide (PySem.W.findIn K (.ref (v_aLi K)) "level" = some none))))))))))))))))
theorem fc11_ok {K : PySem.W.Frag} (h : fc11 K = true) : (PySem.W.subIn K (.ref (v_aLi K)) (.type "NoneType") = some false) ∧ (PySem.W.subIn K (.ref (v_aLi K)) (.type "bool") = some false) ∧ (PySem.W.subIn K (.ref (v_aLi K)) (.type "int") = some false) ∧ (PySem.W.subIn K (.ref (v_aLi K)) (.type "str") = some false) ∧ (PySem.W.subIn K (.ref (v_aLi K)) (.type "list") = some false) ∧ (PySem.W.subIn K (.ref (v_aLi K)) (.type "tuple") = some false) ∧ (PySem.W.subIn K (.ref (v_aLi K)) (.type "dict") = some false) ∧ (PySem.W.findIn K (.ref (v_aLi K)) "__init__" = some (some (.ref (v_fILi K)))) ∧ (PySem.W.isFn K (.ref (v_fILi K)) = true) ∧ (PySem.W.keepIn K (.ref (v_fILi K)) = true) ∧ (PySem.W.findIn K (.ref (v_aLi K)) "__eq__" = some (some (.ref (v_fQLi K)))) ∧ (PySem.W.isFn K (.ref (v_fQLi K)) = true) ∧ (PySem.W.keepIn K (.ref (v_fQLi K)) = true) ∧ (PySem.W.findIn K (.ref (v_aLi K)) "__ne__" = some (some (.builtin "object.__ne__"))) ∧ (PySem.W.findIn K (.ref (v_aLi K)) "item" = some none) ∧ (PySem.W.findIn K (.ref (v_aLi K)) "level" = some none) := by
  obtain ⟨h0, h⟩ := He.ba h
  obtain ⟨h1, h⟩ := He.ba h
  obtain ⟨h2, h⟩ := He.ba h
  obtain ⟨h3, h⟩ := He.ba h
  obtain ⟨h4, h⟩ := He.ba h
  obtain ⟨h5, h⟩ := He.ba h
  obtain ⟨h6, h⟩ := He.ba h
  obtain ⟨h7, h⟩ := He.ba h
  obtain ⟨h8, h⟩ := He.ba h
  obtain ⟨h9, h⟩ := He.ba h
  obtain ⟨h10, h⟩ := He.ba h
  obtain ⟨h11, h⟩ := He.ba h
  obtain ⟨h12, h⟩ := He.ba h
  obtain ⟨h13, h⟩ := He.ba h
  obtain ⟨h14, h⟩ := He.ba h
  exact ⟨of_decide_eq_true h0, of_decide_eq_true h1, of_decide_eq_true h2, of_decide_eq_true h3, of_decide_eq_true h4, of_decide_eq_true h5, of_decide_eq_true h6, of_decide_eq_true h7, of_decide_eq_true h8, of_decide_eq_true h9, of_decide_eq_true h10, of_decide_eq_true h11, of_decide_eq_true h12, of_decide_eq_true h13, of_decide_eq_true h14, of_decide_eq_true h⟩
def fc12 (K : PySem.W.Frag) : Bool := decide (PySem.W.findIn K (.ref (v_aLi K)) "span" = some none) && (decide (PySem.W.findIn K (.ref (v_aLi K)) "at" = some none) && (decide (PySem.W.findIn K (.ref (v_aLi K)) "throw" = some none) && (decide (PySem.W.findIn K (.ref (v_aLi K)) "slope" = some none) && (decide (PySem.W.findIn K (.ref (v_aLi K)) "_lifts" = some none) && (decide (PySem.W.nsIn K mainGlobals "Fault" = some (some (.ref (v_aFa K)))) && (decide (PySem.W.plainGet K (v_aFa K) Str.empty = true) && (decide (PySem.W.hasDictIn K (v_aFa K) = true) && (decide (PySem.W.plainOver K (v_aFa K) = true) && (decide (PySem.W.findIn K (.ref (v_aFa K)) "__setattr__" = some (some (.builtin "object.__setattr__"))) && (decide (PySem.W.makesIn K (v_aFa K) = true) && (decide (PySem.W.keepIn K (.ref (v_aFa K)) = true) && (decide (PySem.W.findIn K (.ref (v_aFa K)) "__class__" = some (some (.builtin "object.__class__"))) && (decide (PySem.W.mroIn K (v_aFa K) (.type "object") = some true) && (decide (PySem.W.isClsIn K (v_aFa K) = true) && (decide (PySem.W.typeIn K (.ref (v_aFa K)) = some (.type "type")))))))))))))))))
theorem fc12_ok {K : PySem.W.Frag} (h : fc12 K = true) : (PySem.W.findIn K (.ref (v_aLi K)) "span" = some none) ∧ (PySem.W.findIn K (.ref (v_aLi K)) "at" = some none) ∧ (PySem.W.findIn K (.ref (v_aLi K)) "throw" = some none) ∧ (PySem.W.findIn K (.ref (v_aLi K)) "slope" = some none) ∧ (PySem.W.findIn K (.ref (v_aLi K)) "_lifts" = some none) ∧ (PySem.W.nsIn K mainGlobals "Fault" = some (some (.ref (v_aFa K)))) ∧ (PySem.W.plainGet K (v_aFa K) Str.empty = true) ∧ (PySem.W.hasDictIn K (v_aFa K) = true) ∧ (PySem.W.plainOver K (v_aFa K) = true) ∧ (PySem.W.findIn K (.ref (v_aFa K)) "__setattr__" = some (some (.builtin "object.__setattr__"))) ∧ (PySem.W.makesIn K (v_aFa K) = true) ∧ (PySem.W.keepIn K (.ref (v_aFa K)) = true) ∧ (PySem.W.findIn K (.ref (v_aFa K)) "__class__" = some (some (.builtin "object.__class__"))) ∧ (PySem.W.mroIn K (v_aFa K) (.type "object") = some true) ∧ (PySem.W.isClsIn K (v_aFa K) = true) ∧ (PySem.W.typeIn K (.ref (v_aFa K)) = some (.type "type")) := by
  obtain ⟨h0, h⟩ := He.ba h
  obtain ⟨h1, h⟩ := He.ba h
  obtain ⟨h2, h⟩ := He.ba h
  obtain ⟨h3, h⟩ := He.ba h
  obtain ⟨h4, h⟩ := He.ba h
  obtain ⟨h5, h⟩ := He.ba h
  obtain ⟨h6, h⟩ := He.ba h
  obtain ⟨h7, h⟩ := He.ba h
  obtain ⟨h8, h⟩ := He.ba h
  obtain ⟨h9, h⟩ := He.ba h
  obtain ⟨h10, h⟩ := He.ba h
  obtain ⟨h11, h⟩ := He.ba h
  obtain ⟨h12, h⟩ := He.ba h
  obtain ⟨h13, h⟩ := He.ba h
  obtain ⟨h14, h⟩ := He.ba h
  exact ⟨of_decide_eq_true h0, of_decide_eq_true h1, of_decide_eq_true h2, of_decide_eq_true h3, of_decide_eq_true h4, of_decide_eq_true h5, of_decide_eq_true h6, of_decide_eq_true h7, of_decide_eq_true h8, of_decide_eq_true h9, of_decide_eq_true h10, of_decide_eq_true h11, of_decide_eq_true h12, of_decide_eq_true h13, of_decide_eq_true h14, of_decide_eq_true h⟩
def fc13 (K : PySem.W.Frag) : Bool := decide (PySem.W.subIn K (.ref (v_aFa K)) (.type "NoneType") = some false) && (decide (PySem.W.subIn K (.ref (v_aFa K)) (.type "bool") = some false) && (decide (PySem.W.subIn K (.ref (v_aFa K)) (.type "int") = some false) && (decide (PySem.W.subIn K (.ref (v_aFa K)) (.type "str") = some false) && (decide (PySem.W.subIn K (.ref (v_aFa K)) (.type "list") = some false) && (decide (PySem.W.subIn K (.ref (v_aFa K)) (.type "tuple") = some false) && (decide (PySem.W.subIn K (.ref (v_aFa K)) (.type "dict") = some false) && (decide (PySem.W.findIn K (.ref (v_aFa K)) "__init__" = some (some (.ref (v_fIFa K)))) && (decide (PySem.W.isFn K (.ref (v_fIFa K)) = true) && (decide (PySem.W.keepIn K (.ref (v_fIFa K)) = true) && (decide (PySem.W.findIn K (.ref (v_aFa K)) "__eq__" = some (some (.ref (v_fQFa K)))) && (decide (PySem.W.isFn K (.ref (v_fQFa K)) = true) && (decide (PySem.W.keepIn K (.ref (v_fQFa K)) = true) && (decide (PySem.W.findIn K (.ref (v_aFa K)) "__ne__" = some (some (.builtin "object.__ne__"))) && (decide (PySem.W.findIn K (.ref (v_aFa K)) "item" = some none) && (decide (PySem.W.findIn K (.ref (v_aFa K)) "level" = some none))))))))))))))))
theorem fc13_ok {K : PySem.W.Frag} (h : fc13 K = true) : (PySem.W.subIn K (.ref (v_aFa K)) (.type "NoneType") = some false) ∧ (PySem.W.subIn K (.ref (v_aFa K)) (.type "bool") = some false) ∧ (PySem.W.subIn K (.ref (v_aFa K)) (.type "int") = some false) ∧ (PySem.W.subIn K (.ref (v_aFa K)) (.type "str") = some false) ∧ (PySem.W.subIn K (.ref (v_aFa K)) (.type "list") = some false) ∧ (PySem.W.subIn K (.ref (v_aFa K)) (.type "tuple") = some false) ∧ (PySem.W.subIn K (.ref (v_aFa K)) (.type "dict") = some false) ∧ (PySem.W.findIn K (.ref (v_aFa K)) "__init__" = some (some (.ref (v_fIFa K)))) ∧ (PySem.W.isFn K (.ref (v_fIFa K)) = true) ∧ (PySem.W.keepIn K (.ref (v_fIFa K)) = true) ∧ (PySem.W.findIn K (.ref (v_aFa K)) "__eq__" = some (some (.ref (v_fQFa K)))) ∧ (PySem.W.isFn K (.ref (v_fQFa K)) = true) ∧ (PySem.W.keepIn K (.ref (v_fQFa K)) = true) ∧ (PySem.W.findIn K (.ref (v_aFa K)) "__ne__" = some (some (.builtin "object.__ne__"))) ∧ (PySem.W.findIn K (.ref (v_aFa K)) "item" = some none) ∧ (PySem.W.findIn K (.ref (v_aFa K)) "level" = some none) := by
  obtain ⟨h0, h⟩ := He.ba h
  obtain ⟨h1, h⟩ := He.ba h
  obtain ⟨h2, h⟩ := He.ba h
  obtain ⟨h3, h⟩ := He.ba h
  obtain ⟨h4, h⟩ := He.ba h
  obtain ⟨h5, h⟩ := He.ba h
  obtain ⟨h6, h⟩ := He.ba h
  obtain ⟨h7, h⟩ := He.ba h
  obtain ⟨h8, h⟩ := He.ba h
  obtain ⟨h9, h⟩ := He.ba h
  obtain ⟨h10, h⟩ := He.ba h
  obtain ⟨h11, h⟩ := He.ba h
  obtain ⟨h12, h⟩ := He.ba h
  obtain ⟨h13, h⟩ := He.ba h
  obtain ⟨h14, h⟩ := He.ba h
  exact ⟨of_decide_eq_true h0, of_decide_eq_true h1, of_decide_eq_true h2, of_decide_eq_true h3, of_decide_eq_true h4, of_decide_eq_true h5, of_decide_eq_true h6, of_decide_eq_true h7, of_decide_eq_true h8, of_decide_eq_true h9, of_decide_eq_true h10, of_decide_eq_true h11, of_decide_eq_true h12, of_decide_eq_true h13, of_decide_eq_true h14, of_decide_eq_true h⟩
def fc14 (K : PySem.W.Frag) : Bool := decide (PySem.W.findIn K (.ref (v_aFa K)) "span" = some none) && (decide (PySem.W.findIn K (.ref (v_aFa K)) "at" = some none) && (decide (PySem.W.findIn K (.ref (v_aFa K)) "throw" = some none) && (decide (PySem.W.findIn K (.ref (v_aFa K)) "slope" = some none) && (decide (PySem.W.findIn K (.ref (v_aFa K)) "_lifts" = some none) && (decide (PySem.W.nsIn K mainGlobals "Tilt" = some (some (.ref (v_aTi K)))) && (decide (PySem.W.plainGet K (v_aTi K) Str.empty = true) && (decide (PySem.W.hasDictIn K (v_aTi K) = true) && (decide (PySem.W.plainOver K (v_aTi K) = true) && (decide (PySem.W.findIn K (.ref (v_aTi K)) "__setattr__" = some (some (.builtin "object.__setattr__"))) && (decide (PySem.W.makesIn K (v_aTi K) = true) && (decide (PySem.W.keepIn K (.ref (v_aTi K)) = true) && (decide (PySem.W.findIn K (.ref (v_aTi K)) "__class__" = some (some (.builtin "object.__class__"))) && (decide (PySem.W.mroIn K (v_aTi K) (.type "object") = some true) && (decide (PySem.W.isClsIn K (v_aTi K) = true) && (decide (PySem.W.typeIn K (.ref (v_aTi K)) = some (.type "type")))))))))))))))))
theorem fc14_ok {K : PySem.W.Frag} (h : fc14 K = true) : (PySem.W.findIn K (.ref (v_aFa K)) "span" = some none) ∧ (PySem.W.findIn K (.ref (v_aFa K)) "at" = some none) ∧ (PySem.W.findIn K (.ref (v_aFa K)) "throw" = some none) ∧ (PySem.W.findIn K (.ref (v_aFa K)) "slope" = some none) ∧ (PySem.W.findIn K (.ref (v_aFa K)) "_lifts" = some none) ∧ (PySem.W.nsIn K mainGlobals "Tilt" = some (some (.ref (v_aTi K)))) ∧ (PySem.W.plainGet K (v_aTi K) Str.empty = true) ∧ (PySem.W.hasDictIn K (v_aTi K) = true) ∧ (PySem.W.plainOver K (v_aTi K) = true) ∧ (PySem.W.findIn K (.ref (v_aTi K)) "__setattr__" = some (some (.builtin "object.__setattr__"))) ∧ (PySem.W.makesIn K (v_aTi K) = true) ∧ (PySem.W.keepIn K (.ref (v_aTi K)) = true) ∧ (PySem.W.findIn K (.ref (v_aTi K)) "__class__" = some (some (.builtin "object.__class__"))) ∧ (PySem.W.mroIn K (v_aTi K) (.type "object") = some true) ∧ (PySem.W.isClsIn K (v_aTi K) = true) ∧ (PySem.W.typeIn K (.ref (v_aTi K)) = some (.type "type")) := by
  obtain ⟨h0, h⟩ := He.ba h
  obtain ⟨h1, h⟩ := He.ba h
  obtain ⟨h2, h⟩ := He.ba h
  obtain ⟨h3, h⟩ := He.ba h
  obtain ⟨h4, h⟩ := He.ba h
  obtain ⟨h5, h⟩ := He.ba h
  obtain ⟨h6, h⟩ := He.ba h
  obtain ⟨h7, h⟩ := He.ba h
  obtain ⟨h8, h⟩ := He.ba h
  obtain ⟨h9, h⟩ := He.ba h
  obtain ⟨h10, h⟩ := He.ba h
  obtain ⟨h11, h⟩ := He.ba h
  obtain ⟨h12, h⟩ := He.ba h
  obtain ⟨h13, h⟩ := He.ba h
  obtain ⟨h14, h⟩ := He.ba h
  exact ⟨of_decide_eq_true h0, of_decide_eq_true h1, of_decide_eq_true h2, of_decide_eq_true h3, of_decide_eq_true h4, of_decide_eq_true h5, of_decide_eq_true h6, of_decide_eq_true h7, of_decide_eq_true h8, of_decide_eq_true h9, of_decide_eq_true h10, of_decide_eq_true h11, of_decide_eq_true h12, of_decide_eq_true h13, of_decide_eq_true h14, of_decide_eq_true h⟩
def fc15 (K : PySem.W.Frag) : Bool := decide (PySem.W.subIn K (.ref (v_aTi K)) (.type "NoneType") = some false) && (decide (PySem.W.subIn K (.ref (v_aTi K)) (.type "bool") = some false) && (decide (PySem.W.subIn K (.ref (v_aTi K)) (.type "int") = some false) && (decide (PySem.W.subIn K (.ref (v_aTi K)) (.type "str") = some false) && (decide (PySem.W.subIn K (.ref (v_aTi K)) (.type "list") = some false) && (decide (PySem.W.subIn K (.ref (v_aTi K)) (.type "tuple") = some false) && (decide (PySem.W.subIn K (.ref (v_aTi K)) (.type "dict") = some false) && (decide (PySem.W.findIn K (.ref (v_aTi K)) "__init__" = some (some (.ref (v_fITi K)))) && (decide (PySem.W.isFn K (.ref (v_fITi K)) = true) && (decide (PySem.W.keepIn K (.ref (v_fITi K)) = true) && (decide (PySem.W.findIn K (.ref (v_aTi K)) "__eq__" = some (some (.ref (v_fQTi K)))) && (decide (PySem.W.isFn K (.ref (v_fQTi K)) = true) && (decide (PySem.W.keepIn K (.ref (v_fQTi K)) = true) && (decide (PySem.W.findIn K (.ref (v_aTi K)) "__ne__" = some (some (.builtin "object.__ne__"))) && (decide (PySem.W.findIn K (.ref (v_aTi K)) "item" = some none) && (decide (PySem.W.findIn K (.ref (v_aTi K)) "level" = some none))))))))))))))))
theorem fc15_ok {K : PySem.W.Frag} (h : fc15 K = true) : (PySem.W.subIn K (.ref (v_aTi K)) (.type "NoneType") = some false) ∧ (PySem.W.subIn K (.ref (v_aTi K)) (.type "bool") = some false) ∧ (PySem.W.subIn K (.ref (v_aTi K)) (.type "int") = some false) ∧ (PySem.W.subIn K (.ref (v_aTi K)) (.type "str") = some false) ∧ (PySem.W.subIn K (.ref (v_aTi K)) (.type "list") = some false) ∧ (PySem.W.subIn K (.ref (v_aTi K)) (.type "tuple") = some false) ∧ (PySem.W.subIn K (.ref (v_aTi K)) (.type "dict") = some false) ∧ (PySem.W.findIn K (.ref (v_aTi K)) "__init__" = some (some (.ref (v_fITi K)))) ∧ (PySem.W.isFn K (.ref (v_fITi K)) = true) ∧ (PySem.W.keepIn K (.ref (v_fITi K)) = true) ∧ (PySem.W.findIn K (.ref (v_aTi K)) "__eq__" = some (some (.ref (v_fQTi K)))) ∧ (PySem.W.isFn K (.ref (v_fQTi K)) = true) ∧ (PySem.W.keepIn K (.ref (v_fQTi K)) = true) ∧ (PySem.W.findIn K (.ref (v_aTi K)) "__ne__" = some (some (.builtin "object.__ne__"))) ∧ (PySem.W.findIn K (.ref (v_aTi K)) "item" = some none) ∧ (PySem.W.findIn K (.ref (v_aTi K)) "level" = some none) := by
  obtain ⟨h0, h⟩ := He.ba h
  obtain ⟨h1, h⟩ := He.ba h
  obtain ⟨h2, h⟩ := He.ba h
  obtain ⟨h3, h⟩ := He.ba h
  obtain ⟨h4, h⟩ := He.ba h
  obtain ⟨h5, h⟩ := He.ba h
  obtain ⟨h6, h⟩ := He.ba h
  obtain ⟨h7, h⟩ := He.ba h
  obtain ⟨h8, h⟩ := He.ba h
  obtain ⟨h9, h⟩ := He.ba h
  obtain ⟨h10, h⟩ := He.ba h
  obtain ⟨h11, h⟩ := He.ba h
  obtain ⟨h12, h⟩ := He.ba h
  obtain ⟨h13, h⟩ := He.ba h
  obtain ⟨h14, h⟩ := He.ba h
  exact ⟨of_decide_eq_true h0, of_decide_eq_true h1, of_decide_eq_true h2, of_decide_eq_true h3, of_decide_eq_true h4, of_decide_eq_true h5, of_decide_eq_true h6, of_decide_eq_true h7, of_decide_eq_true h8, of_decide_eq_true h9, of_decide_eq_true h10, of_decide_eq_true h11, of_decide_eq_true h12, of_decide_eq_true h13, of_decide_eq_true h14, of_decide_eq_true h⟩
def fc16 (K : PySem.W.Frag) : Bool := decide (PySem.W.findIn K (.ref (v_aTi K)) "span" = some none) && (decide (PySem.W.findIn K (.ref (v_aTi K)) "at" = some none) && (decide (PySem.W.findIn K (.ref (v_aTi K)) "throw" = some none) && (decide (PySem.W.findIn K (.ref (v_aTi K)) "slope" = some none) && (decide (PySem.W.findIn K (.ref (v_aTi K)) "_lifts" = some none) && (decide (PySem.W.nsIn K mainGlobals "InvalidName" = some (some (.ref (v_aN K)))) && (decide (DL.clsB K (v_aN K) [.type "ValueError", .type "Exception", .type "BaseException", .type "object"] "ValueError.__new__" = true) && (decide (PySem.W.findIn K (.ref (v_aN K)) "__setattr__" = some (some (.builtin "object.__setattr__"))) && (decide (PySem.W.subIn K (.ref (v_aN K)) (.type "BaseException") = some true) && (decide (PySem.W.typeIn K (.ref (v_aN K)) = some (.type "type")) && (decide (PySem.W.keepIn K (.ref (v_aN K)) = true) && (decide (PySem.W.findIn K (.ref (v_aN K)) "value" = some none) && (decide (PySem.W.findIn K (.ref (v_aN K)) "__init__" = some (some (.ref (v_fIaN K)))) && (decide (PySem.W.keepIn K (.ref (v_fIaN K)) = true) && (decide (PySem.W.typeIn K (.ref (v_fIaN K)) = some (.type "function")) && (decide (PySem.W.findIn K (.ref (v_aN K)) "__getattribute__" = some (some (.builtin "BaseException.__getattribute__"))))))))))))))))))
theorem fc16_ok {K : PySem.W.Frag} (h : fc16 K = true) : (PySem.W.findIn K (.ref (v_aTi K)) "span" = some none) ∧ (PySem.W.findIn K (.ref (v_aTi K)) "at" = some none) ∧ (PySem.W.findIn K (.ref (v_aTi K)) "throw" = some none) ∧ (PySem.W.findIn K (.ref (v_aTi K)) "slope" = some none) ∧ (PySem.W.findIn K (.ref (v_aTi K)) "_lifts" = some none) ∧ (PySem.W.nsIn K mainGlobals "InvalidName" = some (some (.ref (v_aN K)))) ∧ (DL.clsB K (v_aN K) [.type "ValueError", .type "Exception", .type "BaseException", .type "object"] "ValueError.__new__" = true) ∧ (PySem.W.findIn K (.ref (v_aN K)) "__setattr__" = some (some (.builtin "object.__setattr__"))) ∧ (PySem.W.subIn K (.ref (v_aN K)) (.type "BaseException") = some true) ∧ (PySem.W.typeIn K (.ref (v_aN K)) = some (.type "type")) ∧ (PySem.W.keepIn K (.ref (v_aN K)) = true) ∧ (PySem.W.findIn K (.ref (v_aN K)) "value" = some none) ∧ (PySem.W.findIn K (.ref (v_aN K)) "__init__" = some (some (.ref (v_fIaN K)))) ∧ (PySem.W.keepIn K (.ref (v_fIaN K)) = true) ∧ (PySem.W.typeIn K (.ref (v_fIaN K)) = some (.type "function")) ∧ (PySem.W.findIn K (.ref (v_aN K)) "__getattribute__" = some (some (.builtin "BaseException.__getattribute__"))) := by
  obtain ⟨h0, h⟩ := He.ba h
  obtain ⟨h1, h⟩ := He.ba h
  obtain ⟨h2, h⟩ := He.ba h
  obtain ⟨h3, h⟩ := He.ba h
  obtain ⟨h4, h⟩ := He.ba h
  obtain ⟨h5, h⟩ := He.ba h
  obtain ⟨h6, h⟩ := He.ba h
  obtain ⟨h7, h⟩ := He.ba h
  obtain ⟨h8, h⟩ := He.ba h
  obtain ⟨h9, h⟩ := He.ba h
  obtain ⟨h10, h⟩ := He.ba h
  obtain ⟨h11, h⟩ := He.ba h
  obtain ⟨h12, h⟩ := He.ba h
  obtain ⟨h13, h⟩ := He.ba h
  obtain ⟨h14, h⟩ := He.ba h
  exact ⟨of_decide_eq_true h0, of_decide_eq_true h1, of_decide_eq_true h2, of_decide_eq_true h3, of_decide_eq_true h4, of_decide_eq_true h5, of_decide_eq_true h6, of_decide_eq_true h7, of_decide_eq_true h8, of_decide_eq_true h9, of_decide_eq_true h10, of_decide_eq_true h11, of_decide_eq_true h12, of_decide_eq_true h13, of_decide_eq_true h14, of_decide_eq_true h⟩
def fc17 (K : PySem.W.Frag) : Bool := decide (PySem.W.findIn K (.ref (v_aN K)) "__getattr__" = some none) && (decide (PySem.W.hasDictIn K (v_aN K) = true) && (decide (PySem.W.isClsIn K (v_aN K) = true) && (decide (PySem.W.subIn K (.ref (v_aN K)) (.ref (v_aN K)) = some true) && (decide (PySem.W.nsIn K mainGlobals "InvalidLevel" = some (some (.ref (v_aL K)))) && (decide (DL.clsB K (v_aL K) [.type "ValueError", .type "Exception", .type "BaseException", .type "object"] "ValueError.__new__" = true) && (decide (PySem.W.findIn K (.ref (v_aL K)) "__setattr__" = some (some (.builtin "object.__setattr__"))) && (decide (PySem.W.subIn K (.ref (v_aL K)) (.type "BaseException") = some true) && (decide (PySem.W.typeIn K (.ref (v_aL K)) = some (.type "type")) && (decide (PySem.W.keepIn K (.ref (v_aL K)) = true) && (decide (PySem.W.findIn K (.ref (v_aL K)) "value" = some none) && (decide (PySem.W.findIn K (.ref (v_aL K)) "__init__" = some (some (.ref (v_fIaL K)))) && (decide (PySem.W.keepIn K (.ref (v_fIaL K)) = true) && (decide (PySem.W.typeIn K (.ref (v_fIaL K)) = some (.type "function")) && (decide (PySem.W.findIn K (.ref (v_aL K)) "__getattribute__" = some (some (.builtin "BaseException.__getattribute__"))) && (decide (PySem.W.findIn K (.ref (v_aL K)) "__getattr__" = some none))))))))))))))))
theorem fc17_ok {K : PySem.W.Frag} (h : fc17 K = true) : (PySem.W.findIn K (.ref (v_aN K)) "__getattr__" = some none) ∧ (PySem.W.hasDictIn K (v_aN K) = true) ∧ (PySem.W.isClsIn K (v_aN K) = true) ∧ (PySem.W.subIn K (.ref (v_aN K)) (.ref (v_aN K)) = some true) ∧ (PySem.W.nsIn K mainGlobals "InvalidLevel" = some (some (.ref (v_aL K)))) ∧ (DL.clsB K (v_aL K) [.type "ValueError", .type "Exception", .type "BaseException", .type "object"] "ValueError.__new__" = true) ∧ (PySem.W.findIn K (.ref (v_aL K)) "__setattr__" = some (some (.builtin "object.__setattr__"))) ∧ (PySem.W.subIn K (.ref (v_aL K)) (.type "BaseException") = some true) ∧ (PySem.W.typeIn K (.ref (v_aL K)) = some (.type "type")) ∧ (PySem.W.keepIn K (.ref (v_aL K)) = true) ∧ (PySem.W.findIn K (.ref (v_aL K)) "value" = some none) ∧ (PySem.W.findIn K (.ref (v_aL K)) "__init__" = some (some (.ref (v_fIaL K)))) ∧ (PySem.W.keepIn K (.ref (v_fIaL K)) = true) ∧ (PySem.W.typeIn K (.ref (v_fIaL K)) = some (.type "function")) ∧ (PySem.W.findIn K (.ref (v_aL K)) "__getattribute__" = some (some (.builtin "BaseException.__getattribute__"))) ∧ (PySem.W.findIn K (.ref (v_aL K)) "__getattr__" = some none) := by
  obtain ⟨h0, h⟩ := He.ba h
  obtain ⟨h1, h⟩ := He.ba h
  obtain ⟨h2, h⟩ := He.ba h
  obtain ⟨h3, h⟩ := He.ba h
  obtain ⟨h4, h⟩ := He.ba h
  obtain ⟨h5, h⟩ := He.ba h
  obtain ⟨h6, h⟩ := He.ba h
  obtain ⟨h7, h⟩ := He.ba h
  obtain ⟨h8, h⟩ := He.ba h
  obtain ⟨h9, h⟩ := He.ba h
  obtain ⟨h10, h⟩ := He.ba h
  obtain ⟨h11, h⟩ := He.ba h
  obtain ⟨h12, h⟩ := He.ba h
  obtain ⟨h13, h⟩ := He.ba h
  obtain ⟨h14, h⟩ := He.ba h
  exact ⟨of_decide_eq_true h0, of_decide_eq_true h1, of_decide_eq_true h2, of_decide_eq_true h3, of_decide_eq_true h4, of_decide_eq_true h5, of_decide_eq_true h6, of_decide_eq_true h7, of_decide_eq_true h8, of_decide_eq_true h9, of_decide_eq_true h10, of_decide_eq_true h11, of_decide_eq_true h12, of_decide_eq_true h13, of_decide_eq_true h14, of_decide_eq_true h⟩
def fc18 (K : PySem.W.Frag) : Bool := decide (PySem.W.hasDictIn K (v_aL K) = true) && (decide (PySem.W.isClsIn K (v_aL K) = true) && (decide (PySem.W.subIn K (.ref (v_aL K)) (.ref (v_aL K)) = some true) && (decide (PySem.W.nsIn K mainGlobals "NoColumn" = some (some (.ref (v_aP K)))) && (decide (DL.clsB K (v_aP K) [.type "IndexError", .type "LookupError", .type "Exception", .type "BaseException", .type "object"] "IndexError.__new__" = true) && (decide (PySem.W.findIn K (.ref (v_aP K)) "__setattr__" = some (some (.builtin "object.__setattr__"))) && (decide (PySem.W.subIn K (.ref (v_aP K)) (.type "BaseException") = some true) && (decide (PySem.W.typeIn K (.ref (v_aP K)) = some (.type "type")) && (decide (PySem.W.keepIn K (.ref (v_aP K)) = true) && (decide (PySem.W.findIn K (.ref (v_aP K)) "at" = some none) && (decide (PySem.W.findIn K (.ref (v_aP K)) "__init__" = some (some (.ref (v_fIaP K)))) && (decide (PySem.W.keepIn K (.ref (v_fIaP K)) = true) && (decide (PySem.W.typeIn K (.ref (v_fIaP K)) = some (.type "function")) && (decide (PySem.W.findIn K (.ref (v_aP K)) "__getattribute__" = some (some (.builtin "BaseException.__getattribute__"))) && (decide (PySem.W.findIn K (.ref (v_aP K)) "__getattr__" = some none) && (decide (PySem.W.hasDictIn K (v_aP K) = true))))))))))))))))
theorem fc18_ok {K : PySem.W.Frag} (h : fc18 K = true) : (PySem.W.hasDictIn K (v_aL K) = true) ∧ (PySem.W.isClsIn K (v_aL K) = true) ∧ (PySem.W.subIn K (.ref (v_aL K)) (.ref (v_aL K)) = some true) ∧ (PySem.W.nsIn K mainGlobals "NoColumn" = some (some (.ref (v_aP K)))) ∧ (DL.clsB K (v_aP K) [.type "IndexError", .type "LookupError", .type "Exception", .type "BaseException", .type "object"] "IndexError.__new__" = true) ∧ (PySem.W.findIn K (.ref (v_aP K)) "__setattr__" = some (some (.builtin "object.__setattr__"))) ∧ (PySem.W.subIn K (.ref (v_aP K)) (.type "BaseException") = some true) ∧ (PySem.W.typeIn K (.ref (v_aP K)) = some (.type "type")) ∧ (PySem.W.keepIn K (.ref (v_aP K)) = true) ∧ (PySem.W.findIn K (.ref (v_aP K)) "at" = some none) ∧ (PySem.W.findIn K (.ref (v_aP K)) "__init__" = some (some (.ref (v_fIaP K)))) ∧ (PySem.W.keepIn K (.ref (v_fIaP K)) = true) ∧ (PySem.W.typeIn K (.ref (v_fIaP K)) = some (.type "function")) ∧ (PySem.W.findIn K (.ref (v_aP K)) "__getattribute__" = some (some (.builtin "BaseException.__getattribute__"))) ∧ (PySem.W.findIn K (.ref (v_aP K)) "__getattr__" = some none) ∧ (PySem.W.hasDictIn K (v_aP K) = true) := by
  obtain ⟨h0, h⟩ := He.ba h
  obtain ⟨h1, h⟩ := He.ba h
  obtain ⟨h2, h⟩ := He.ba h
  obtain ⟨h3, h⟩ := He.ba h
  obtain ⟨h4, h⟩ := He.ba h
  obtain ⟨h5, h⟩ := He.ba h
  obtain ⟨h6, h⟩ := He.ba h
  obtain ⟨h7, h⟩ := He.ba h
  obtain ⟨h8, h⟩ := He.ba h
  obtain ⟨h9, h⟩ := He.ba h
  obtain ⟨h10, h⟩ := He.ba h
  obtain ⟨h11, h⟩ := He.ba h
  obtain ⟨h12, h⟩ := He.ba h
  obtain ⟨h13, h⟩ := He.ba h
  obtain ⟨h14, h⟩ := He.ba h
  exact ⟨of_decide_eq_true h0, of_decide_eq_true h1, of_decide_eq_true h2, of_decide_eq_true h3, of_decide_eq_true h4, of_decide_eq_true h5, of_decide_eq_true h6, of_decide_eq_true h7, of_decide_eq_true h8, of_decide_eq_true h9, of_decide_eq_true h10, of_decide_eq_true h11, of_decide_eq_true h12, of_decide_eq_true h13, of_decide_eq_true h14, of_decide_eq_true h⟩
def fc19 (K : PySem.W.Frag) : Bool := decide (PySem.W.isClsIn K (v_aP K) = true) && (decide (PySem.W.subIn K (.ref (v_aP K)) (.ref (v_aP K)) = some true) && (decide (PySem.W.nsIn K mainGlobals "WrongWidth" = some (some (.ref (v_aW K)))) && (decide (DL.clsB K (v_aW K) [.type "ValueError", .type "Exception", .type "BaseException", .type "object"] "ValueError.__new__" = true) && (decide (PySem.W.findIn K (.ref (v_aW K)) "__setattr__" = some (some (.builtin "object.__setattr__"))) && (decide (PySem.W.subIn K (.ref (v_aW K)) (.type "BaseException") = some true) && (decide (PySem.W.typeIn K (.ref (v_aW K)) = some (.type "type")) && (decide (PySem.W.keepIn K (.ref (v_aW K)) = true) && (decide (PySem.W.findIn K (.ref (v_aW K)) "width" = some none) && (decide (PySem.W.findIn K (.ref (v_aW K)) "__init__" = some (some (.ref (v_fIaW K)))) && (decide (PySem.W.keepIn K (.ref (v_fIaW K)) = true) && (decide (PySem.W.typeIn K (.ref (v_fIaW K)) = some (.type "function")) && (decide (PySem.W.findIn K (.ref (v_aW K)) "__getattribute__" = some (some (.builtin "BaseException.__getattribute__"))) && (decide (PySem.W.findIn K (.ref (v_aW K)) "__getattr__" = some none) && (decide (PySem.W.hasDictIn K (v_aW K) = true) && (decide (PySem.W.isClsIn K (v_aW K) = true))))))))))))))))
theorem fc19_ok {K : PySem.W.Frag} (h : fc19 K = true) : (PySem.W.isClsIn K (v_aP K) = true) ∧ (PySem.W.subIn K (.ref (v_aP K)) (.ref (v_aP K)) = some true) ∧ (PySem.W.nsIn K mainGlobals "WrongWidth" = some (some (.ref (v_aW K)))) ∧ (DL.clsB K (v_aW K) [.type "ValueError", .type "Exception", .type "BaseException", .type "object"] "ValueError.__new__" = true) ∧ (PySem.W.findIn K (.ref (v_aW K)) "__setattr__" = some (some (.builtin "object.__setattr__"))) ∧ (PySem.W.subIn K (.ref (v_aW K)) (.type "BaseException") = some true) ∧ (PySem.W.typeIn K (.ref (v_aW K)) = some (.type "type")) ∧ (PySem.W.keepIn K (.ref (v_aW K)) = true) ∧ (PySem.W.findIn K (.ref (v_aW K)) "width" = some none) ∧ (PySem.W.findIn K (.ref (v_aW K)) "__init__" = some (some (.ref (v_fIaW K)))) ∧ (PySem.W.keepIn K (.ref (v_fIaW K)) = true) ∧ (PySem.W.typeIn K (.ref (v_fIaW K)) = some (.type "function")) ∧ (PySem.W.findIn K (.ref (v_aW K)) "__getattribute__" = some (some (.builtin "BaseException.__getattribute__"))) ∧ (PySem.W.findIn K (.ref (v_aW K)) "__getattr__" = some none) ∧ (PySem.W.hasDictIn K (v_aW K) = true) ∧ (PySem.W.isClsIn K (v_aW K) = true) := by
  obtain ⟨h0, h⟩ := He.ba h
  obtain ⟨h1, h⟩ := He.ba h
  obtain ⟨h2, h⟩ := He.ba h
  obtain ⟨h3, h⟩ := He.ba h
  obtain ⟨h4, h⟩ := He.ba h
  obtain ⟨h5, h⟩ := He.ba h
  obtain ⟨h6, h⟩ := He.ba h
  obtain ⟨h7, h⟩ := He.ba h
  obtain ⟨h8, h⟩ := He.ba h
  obtain ⟨h9, h⟩ := He.ba h
  obtain ⟨h10, h⟩ := He.ba h
  obtain ⟨h11, h⟩ := He.ba h
  obtain ⟨h12, h⟩ := He.ba h
  obtain ⟨h13, h⟩ := He.ba h
  obtain ⟨h14, h⟩ := He.ba h
  exact ⟨of_decide_eq_true h0, of_decide_eq_true h1, of_decide_eq_true h2, of_decide_eq_true h3, of_decide_eq_true h4, of_decide_eq_true h5, of_decide_eq_true h6, of_decide_eq_true h7, of_decide_eq_true h8, of_decide_eq_true h9, of_decide_eq_true h10, of_decide_eq_true h11, of_decide_eq_true h12, of_decide_eq_true h13, of_decide_eq_true h14, of_decide_eq_true h⟩
def fc20 (K : PySem.W.Frag) : Bool := decide (PySem.W.subIn K (.ref (v_aW K)) (.ref (v_aW K)) = some true) && (decide (PySem.W.subIn K (.ref (v_aL K)) (.ref (v_aN K)) = some false) && (decide (PySem.W.subIn K (.ref (v_aP K)) (.ref (v_aN K)) = some false) && (decide (PySem.W.subIn K (.ref (v_aP K)) (.ref (v_aL K)) = some false) && (decide (PySem.W.subIn K (.ref (v_aW K)) (.ref (v_aN K)) = some false) && (decide (PySem.W.subIn K (.ref (v_aW K)) (.ref (v_aL K)) = some false) && (decide (PySem.W.subIn K (.ref (v_aW K)) (.ref (v_aP K)) = some false) && (decide (pDf K (v_f0 K) = .none) && (decide (pDf K (v_f1 K) = .none) && (decide (pDf K (v_f2 K) = .none) && (decide (pDf K (v_f3 K) = .none) && (decide (pDf K (v_f4 K) = .none) && (decide (pDf K (v_f5 K) = .none) && (decide (pDf K (v_f6 K) = .none) && (decide (pDf K (v_f7 K) = .none) && (decide (pDf K (v_f8 K) = .none))))))))))))))))
theorem fc20_ok {K : PySem.W.Frag} (h : fc20 K = true) : (PySem.W.subIn K (.ref (v_aW K)) (.ref (v_aW K)) = some true) ∧ (PySem.W.subIn K (.ref (v_aL K)) (.ref (v_aN K)) = some false) ∧ (PySem.W.subIn K (.ref (v_aP K)) (.ref (v_aN K)) = some false) ∧ (PySem.W.subIn K (.ref (v_aP K)) (.ref (v_aL K)) = some false) ∧ (PySem.W.subIn K (.ref (v_aW K)) (.ref (v_aN K)) = some false) ∧ (PySem.W.subIn K (.ref (v_aW K)) (.ref (v_aL K)) = some false) ∧ (PySem.W.subIn K (.ref (v_aW K)) (.ref (v_aP K)) = some false) ∧ (pDf K (v_f0 K) = .none) ∧ (pDf K (v_f1 K) = .none) ∧ (pDf K (v_f2 K) = .none) ∧ (pDf K (v_f3 K) = .none) ∧ (pDf K (v_f4 K) = .none) ∧ (pDf K (v_f5 K) = .none) ∧ (pDf K (v_f6 K) = .none) ∧ (pDf K (v_f7 K) = .none) ∧ (pDf K (v_f8 K) = .none) := by
  obtain ⟨h0, h⟩ := He.ba h
  obtain ⟨h1, h⟩ := He.ba h
  obtain ⟨h2, h⟩ := He.ba h
  obtain ⟨h3, h⟩ := He.ba h
  obtain ⟨h4, h⟩ := He.ba h
  obtain ⟨h5, h⟩ := He.ba h
  obtain ⟨h6, h⟩ := He.ba h
  obtain ⟨h7, h⟩ := He.ba h
  obtain ⟨h8, h⟩ := He.ba h
  obtain ⟨h9, h⟩ := He.ba h
  obtain ⟨h10, h⟩ := He.ba h
  obtain ⟨h11, h⟩ := He.ba h
  obtain ⟨h12, h⟩ := He.ba h
  obtain ⟨h13, h⟩ := He.ba h
  obtain ⟨h14, h⟩ := He.ba h
  exact ⟨of_decide_eq_true h0, of_decide_eq_true h1, of_decide_eq_true h2, of_decide_eq_true h3, of_decide_eq_true h4, of_decide_eq_true h5, of_decide_eq_true h6, of_decide_eq_true h7, of_decide_eq_true h8, of_decide_eq_true h9, of_decide_eq_true h10, of_decide_eq_true h11, of_decide_eq_true h12, of_decide_eq_true h13, of_decide_eq_true h14, of_decide_eq_true h⟩
def fc21 (K : PySem.W.Frag) : Bool := decide (pDf K (v_f9 K) = .none) && (decide (pDf K (v_f10 K) = .none) && (decide (pDf K (v_f11 K) = .none) && (decide (pDf K (v_f12 K) = .none) && (decide (pDf K (v_f13 K) = .none) && (decide (pDf K (v_f14 K) = .none) && (decide (pDf K (v_f15 K) = .none) && (decide (pDf K (v_f16 K) = .none) && (decide (pDf K (v_f17 K) = .none) && (decide (pDf K (v_f18 K) = .none) && (decide (pDf K (v_f19 K) = .none) && (decide (pDf K (v_f20 K) = .none) && (decide (pDf K (v_fILa K) = .none) && (decide (pKd K (v_fILa K) = (.ref (v_aKLa K))) && (decide (pDf K (v_fQLa K) = .none) && (decide (pDf K (v_fICu K) = .none))))))))))))))))
theorem fc21_ok {K : PySem.W.Frag} (h : fc21 K = true) : (pDf K (v_f9 K) = .none) ∧ (pDf K (v_f10 K) = .none) ∧ (pDf K (v_f11 K) = .none) ∧ (pDf K (v_f12 K) = .none) ∧ (pDf K (v_f13 K) = .none) ∧ (pDf K (v_f14 K) = .none) ∧ (pDf K (v_f15 K) = .none) ∧ (pDf K (v_f16 K) = .none) ∧ (pDf K (v_f17 K) = .none) ∧ (pDf K (v_f18 K) = .none) ∧ (pDf K (v_f19 K) = .none) ∧ (pDf K (v_f20 K) = .none) ∧ (pDf K (v_fILa K) = .none) ∧ (pKd K (v_fILa K) = (.ref (v_aKLa K))) ∧ (pDf K (v_fQLa K) = .none) ∧ (pDf K (v_fICu K) = .none) := by
  obtain ⟨h0, h⟩ := He.ba h
  obtain ⟨h1, h⟩ := He.ba h
  obtain ⟨h2, h⟩ := He.ba h
  obtain ⟨h3, h⟩ := He.ba h
  obtain ⟨h4, h⟩ := He.ba h
  obtain ⟨h5, h⟩ := He.ba h
  obtain ⟨h6, h⟩ := He.ba h
  obtain ⟨h7, h⟩ := He.ba h
  obtain ⟨h8, h⟩ := He.ba h
  obtain ⟨h9, h⟩ := He.ba h
  obtain ⟨h10, h⟩ := He.ba h
  obtain ⟨h11, h⟩ := He.ba h
  obtain ⟨h12, h⟩ := He.ba h
  obtain ⟨h13, h⟩ := He.ba h
  obtain ⟨h14, h⟩ := He.ba h
  exact ⟨of_decide_eq_true h0, of_decide_eq_true h1, of_decide_eq_true h2, of_decide_eq_true h3, of_decide_eq_true h4, of_decide_eq_true h5, of_decide_eq_true h6, of_decide_eq_true h7, of_decide_eq_true h8, of_decide_eq_true h9, of_decide_eq_true h10, of_decide_eq_true h11, of_decide_eq_true h12, of_decide_eq_true h13, of_decide_eq_true h14, of_decide_eq_true h⟩
def fc22 (K : PySem.W.Frag) : Bool := decide (pKd K (v_fICu K) = (.ref (v_aKCu K))) && (decide (pDf K (v_fQCu K) = .none) && (decide (pDf K (v_fIDi K) = .none) && (decide (pDf K (v_fQDi K) = .none) && (decide (pDf K (v_fILi K) = .none) && (decide (pDf K (v_fQLi K) = .none) && (decide (pDf K (v_fIFa K) = .none) && (decide (pDf K (v_fQFa K) = .none) && (decide (pDf K (v_fITi K) = .none) && (decide (pDf K (v_fQTi K) = .none) && (decide (pDf K (v_fIaN K) = .none) && (decide (pDf K (v_fIaL K) = .none) && (decide (pDf K (v_fIaP K) = .none) && (decide (pDf K (v_fIaW K) = .none))))))))))))))
theorem fc22_ok {K : PySem.W.Frag} (h : fc22 K = true) : (pKd K (v_fICu K) = (.ref (v_aKCu K))) ∧ (pDf K (v_fQCu K) = .none) ∧ (pDf K (v_fIDi K) = .none) ∧ (pDf K (v_fQDi K) = .none) ∧ (pDf K (v_fILi K) = .none) ∧ (pDf K (v_fQLi K) = .none) ∧ (pDf K (v_fIFa K) = .none) ∧ (pDf K (v_fQFa K) = .none) ∧ (pDf K (v_fITi K) = .none) ∧ (pDf K (v_fQTi K) = .none) ∧ (pDf K (v_fIaN K) = .none) ∧ (pDf K (v_fIaL K) = .none) ∧ (pDf K (v_fIaP K) = .none) ∧ (pDf K (v_fIaW K) = .none) := by
  obtain ⟨h0, h⟩ := He.ba h
  obtain ⟨h1, h⟩ := He.ba h
  obtain ⟨h2, h⟩ := He.ba h
  obtain ⟨h3, h⟩ := He.ba h
  obtain ⟨h4, h⟩ := He.ba h
  obtain ⟨h5, h⟩ := He.ba h
  obtain ⟨h6, h⟩ := He.ba h
  obtain ⟨h7, h⟩ := He.ba h
  obtain ⟨h8, h⟩ := He.ba h
  obtain ⟨h9, h⟩ := He.ba h
  obtain ⟨h10, h⟩ := He.ba h
  obtain ⟨h11, h⟩ := He.ba h
  obtain ⟨h12, h⟩ := He.ba h
  exact ⟨of_decide_eq_true h0, of_decide_eq_true h1, of_decide_eq_true h2, of_decide_eq_true h3, of_decide_eq_true h4, of_decide_eq_true h5, of_decide_eq_true h6, of_decide_eq_true h7, of_decide_eq_true h8, of_decide_eq_true h9, of_decide_eq_true h10, of_decide_eq_true h11, of_decide_eq_true h12, of_decide_eq_true h⟩
def ex1 : List (PySem.W.Frag → Bool) := [fc0, fc1, fc2, fc3, fc4, fc5, fc6, fc7, fc8, fc9, fc10, fc11]
def ex2 : List (PySem.W.Frag → Bool) := [fc12, fc13, fc14, fc15, fc16, fc17, fc18, fc19, fc20, fc21, fc22]
open PySem PySem.W PySem.Calls PyProof.Rows
def lo0 : List PySem.Str := ["_wall", "copied", "InvalidName", "InvalidLevel", "InvalidBeds", "InvalidColumns", "InvalidEvent", "InvalidSpan", "WrongWidth", "ParseError", "NoColumn", "NoPlace", "TooMany", "LONGEST_NAME", "is_name", "is_level", "is_index", "need_name", "need_level", "need_name_or_none", "is_bed", "merges", "are_beds", "column_items"]
def lo1 : List PySem.Str := ["Column", "DIGITS", "MOST_DIGITS", "is_number", "after_sign", "column_text", "split_at_sign", "read_ground", "read_bed", "read_column", "is_width", "need_width", "are_columns", "section_items", "names_of", "Section", "FORMS", "line_of", "forms_of", "can_stand", "read_values", "read_event_words", "need_column", "is_span"]
def lo2 : List PySem.Str := ["need_span_or_none", "whole_span", "span_words", "lifted", "events_of", "joined", "event_of_line", "Event", "Lay", "Cut", "Dike", "Lift", "Fault", "Tilt", "History", "_law_feed", "_law_draw", "_law_pick", "_law_any", "_law_is_int", "_law_is_word", "_law_caught", "_law_looked", "_law_due_lift"]
def lo3 : List PySem.Str := ["_law_some_lifts"]
def loL : List PySem.Str := lo0 ++ lo1 ++ lo2 ++ lo3
abbrev Rw : OpenRow := OpenLaw.row PySem.Challenge.rw_rockbeds_k19_events_refused
theorem runA_false (w : World) (os : OsState) : (DL.endP Rw 12000 (w.withFollow "special-get-raises" false) os).map (fun s => (HandSHeadRun.looksF Rw.prog (boot_heap (w.withFollow "special-get-raises" false).params) s.abs, HandSHeadRun.seenQ (view Rw.prog [81]) loL (importedModules Rw.prog.main.body) (fun s => xlAt (view Rw.prog [81]) [] s && recOk Rw.toRowW.records s) s.abs, fnL.map fun d => DL.fnP (DL.frPT s) (d.at_ (DL.frPT s)))) = some (true, openGood (view Rw.prog [81]) loL, fnL.map DL.FnP.val) := by
  kernel_rfl
theorem runB_false (w : World) (os : OsState) : (DL.endP Rw 12000 (w.withFollow "special-get-raises" false) os).map (fun s => (ex1.all fun f => f (DL.frPT s)) && ((ex2.all fun f => f (DL.frPT s)) && ((fnL.all fun d => d.ok (DL.frPT s)) && He.tabsB (HandSHeadRun.getT s) [DL.lawP] (DL.frPT s)))) = some true := by
  kernel_rfl
theorem runA_true (w : World) (os : OsState) : (DL.endP Rw 12000 (w.withFollow "special-get-raises" true) os).map (fun s => (HandSHeadRun.looksF Rw.prog (boot_heap (w.withFollow "special-get-raises" true).params) s.abs, HandSHeadRun.seenQ (view Rw.prog [81]) loL (importedModules Rw.prog.main.body) (fun s => xlAt (view Rw.prog [81]) [] s && recOk Rw.toRowW.records s) s.abs, fnL.map fun d => DL.fnP (DL.frPT s) (d.at_ (DL.frPT s)))) = some (true, openGood (view Rw.prog [81]) loL, fnL.map DL.FnP.val) := by
  kernel_rfl
theorem runB_true (w : World) (os : OsState) : (DL.endP Rw 12000 (w.withFollow "special-get-raises" true) os).map (fun s => (ex1.all fun f => f (DL.frPT s)) && ((ex2.all fun f => f (DL.frPT s)) && ((fnL.all fun d => d.ok (DL.frPT s)) && He.tabsB (HandSHeadRun.getT s) [DL.lawP] (DL.frPT s)))) = some true := by
  kernel_rfl
theorem run (w : World) : HandSHeadRun.RunEq Rw (view Rw.prog [81]) (DL.hookPT ex1 ex2 fnL) (DL.obPT ex1 ex2 fnL) 12000 loL w := byRow2 "special-get-raises" (P := fun w => HandSHeadRun.RunEq Rw (view Rw.prog [81]) (DL.hookPT ex1 ex2 fnL) (DL.obPT ex1 ex2 fnL) 12000 loL w) (fun w => DL.runEq_ofPT (runA_false w) (runB_false w)) (fun w => DL.runEq_ofPT (runA_true w) (runB_true w)) w
end Rk

set_option Elab.async false
set_option linter.all false
set_option maxRecDepth 100000
namespace Rk
open PySem L2
def top (i : Nat) : Stmt := PySem.Challenge.pw_rockbeds_k19_events_refused.main.body.getD i (.Pass ⟨0, 0, 0, 0⟩)
abbrev sIsName : Stmt := top 16
abbrev sIsLevel : Stmt := top 17
abbrev sIsIndex : Stmt := top 18
abbrev sNeedName : Stmt := top 19
abbrev sNeedLevel : Stmt := top 20
abbrev sNeedNameOrNone : Stmt := top 21
abbrev sIsBed : Stmt := top 22
abbrev sMerges : Stmt := top 23
abbrev sAreBeds : Stmt := top 24
abbrev sIsWidth : Stmt := top 38
abbrev sNeedColumn : Stmt := top 52
abbrev sIsSpan : Stmt := top 53
abbrev sNeedSpanOrNone : Stmt := top 54
abbrev sCopied : Stmt := top 2
abbrev sFeed : Stmt := top 71
abbrev sDraw : Stmt := top 72
abbrev sPick : Stmt := top 73
abbrev sAny : Stmt := top 74
abbrev sIsInt : Stmt := top 75
abbrev sIsWord : Stmt := top 76
abbrev sCaught : Stmt := top 77
abbrev sLooked : Stmt := top 78
abbrev sDueLift : Stmt := top 79
abbrev sSomeLifts : Stmt := top 80
abbrev sLaw : Stmt := top 81
/-! ### the feed -/
abbrev kC : Key := Sum.inr "cells"
abbrev kA : Key := Sum.inr "at"
abbrev kL : Key := Sum.inr "left"
def fk (c : Addr) (n l : Int) : List (Key × V) := [(kC, .ref c), (kA, .int n), (kL, .int l)]
theorem nCA : ¬ kC = kA := by decide +kernel
theorem nCL : ¬ kC = kL := by decide +kernel
theorem nAL : ¬ kA = kL := by decide +kernel
theorem fk_cells (c : Addr) (n l : Int) : valV (fk c n l) kC = some (.ref c) := valV_pos rfl
theorem fk_at (c : Addr) (n l : Int) : valV (fk c n l) kA = some (.int n) := by
  unfold fk
  rw [valV_neg nCA, valV_pos rfl]
theorem fk_left (c : Addr) (n l : Int) : valV (fk c n l) kL = some (.int l) := by
  unfold fk
  rw [valV_neg nCL, valV_neg nAL, valV_pos rfl]
theorem fk_put_left (c : Addr) (n l z : Int) : putK (fk c n l) kL (.int z) = fk c n z := by
  unfold fk putK
  simp only [List.any_cons, List.map_cons, List.map_nil, List.any_nil, nCL, nAL, decide_false, decide_true, Bool.or_true, Bool.true_or, Bool.false_or, if_true, if_false, Bool.or_false]
theorem fk_put_at (c : Addr) (n l z : Int) : putK (fk c n l) kA (.int z) = fk c z l := by
  unfold fk putK
  have e : ¬ kL = kA := fun h => nAL h.symm
  simp only [List.any_cons, List.map_cons, List.map_nil, List.any_nil, nCA, e, decide_false, decide_true, Bool.or_true, Bool.true_or, Bool.false_or, if_true, if_false, Bool.or_false]
structure Feed (H : Hp) (d c : Addr) (ns : List Int) (n : Nat) : Prop where
  fd : ∃ l : Int, 0 ≤ l ∧ H d = some (.dK (fk c n l))
  cl : H c = some (.lst (ns.map V.int))
  ln : ns.length ≤ 63
/-- all but d stands as it stood -/
def Keep (d : Addr) (H H' : Hp) : Prop := ∀ b o, b ≠ d → H b = some o → H' b = some o
theorem Keep.refl (d : Addr) (H : Hp) : Keep d H H := fun _ _ _ h => h
theorem Keep.trans {d : Addr} {H H1 H2 : Hp} (a : Keep d H H1) (b : Keep d H1 H2) : Keep d H H2 := fun x o n h => b x o n (a x o n h)
theorem Keep.new {d p : Addr} {H : Hp} {o : HO} (h : H p = none) : Keep d H (upd H p o) := fun b x _ e => by
  rw [upd_ne (ne_of_none e h)]
  exact e
theorem Keep.put {d : Addr} {H : Hp} {o : HO} : Keep d H (upd H d o) := fun b x n e => by
  rw [upd_ne n]
  exact e
theorem Feed.ne {H : Hp} {d c : Addr} {ns : List Int} {n : Nat} (F : Feed H d c ns n) : c ≠ d := by
  obtain ⟨⟨l, _, h⟩, hc, _⟩ := F
  exact ne_of hc h (by intro z; cases z)
theorem Feed.new {H : Hp} {d c p : Addr} {ns : List Int} {n : Nat} {o : HO} (F : Feed H d c ns n) (h : H p = none) : Feed (upd H p o) d c ns n := by
  obtain ⟨⟨l, l0, e⟩, hc, hl⟩ := F
  exact ⟨⟨l, l0, by rw [upd_ne (ne_of_none e h)]; exact e⟩, by rw [upd_ne (ne_of_none hc h)]; exact hc, hl⟩
theorem Feed.put {H : Hp} {d c : Addr} {ns : List Int} {n m : Nat} {l : Int} (F : Feed H d c ns n) (h : 0 ≤ l) : Feed (upd H d (.dK (fk c m l))) d c ns m :=
  ⟨⟨l, h, upd_same⟩, by rw [upd_ne F.ne]; exact F.cl, F.ln⟩
structure Txt (mg : Str → Option Value) : Prop where
  int : mg "int" = none
  len : mg "len" = none
  abs : mg "abs" = none
  range : mg "range" = none
  tuple : mg "tuple" = none
  list : mg "list" = none
  str : mg "str" = none
  bool : mg "bool" = none
  isinstance : mg "isinstance" = none
  all : mg "all" = none
  any : mg "any" = none
  min : mg "min" = none
  sum : mg "sum" = none
  zip : mg "zip" = none
  dict : mg "dict" = none
  repr : mg "repr" = none
  IndexError : mg "IndexError" = none
/-- a def of the top: where it stands, and how its arguments bind -/
structure DefAt (K : PySem.W.Frag) (mg : Str → Option Value) (x : Str) (st : Stmt) (ps : List Str) (f : Addr) (fd : FuncData) : Prop where
  F : Fun K x x st f fd
  M : mg x = some (.ref f)
  B : Binds K fd ps []
/-! ### draw -/
def spDraw : Sp := fun vs H Q _ => ∃ (d c : Addr) (ns : List Int) (n : Nat) (m : Int), vs = [.ref d, .int m] ∧ Feed H d c ns n ∧ n < 1000000000 ∧ 0 < m ∧ m < 1073741824 ∧
  ∀ (r : Int) (H' : Hp) (n' : Nat), 0 ≤ r → r < m → n' ≤ n + 1 → Feed H' d c ns n' → Keep d H H' → Q (.int r) H'
theorem dpInts {K : PySem.W.Frag} {H : Hp} : ∀ ns : List Int, DpAll K H (ns.map V.int) (ns.map PyData.int)
  | [] => .nil
  | n :: r => .cons (.int n) (dpInts r)
theorem shInts : ∀ ns : List Int, SeqAt.shaped (.list (ns.map PyData.int)) = true
  | [] => rfl
  | n :: r => shInts r
theorem map_int {ns : List Int} {i : Nat} {v : V} (h : (ns.map V.int)[i]? = some v) : ∃ z, v = .int z := by
  rw [List.getElem?_map] at h
  cases e : ns[i]? with
  | none => rw [e] at h; cases h
  | some z => rw [e] at h; exact ⟨z, (Option.some.inj h).symm⟩
theorem fdiv_nn {a b : Int} (ha : 0 ≤ a) (hb : 0 < b) : 0 ≤ a.fdiv b := by
  rw [Int.fdiv_eq_ediv_of_nonneg a (Int.le_of_lt hb)]
  exact Int.ediv_nonneg ha (Int.le_of_lt hb)
theorem fmod_lo (a : Int) {b : Int} (hb : 0 < b) : 0 ≤ a.fmod b := by
  rw [Int.fmod_eq_emod_of_nonneg a (Int.le_of_lt hb)]
  exact Int.emod_nonneg a (by omega)
theorem fmod_hi (a : Int) {b : Int} (hb : 0 < b) : a.fmod b < b := by
  rw [Int.fmod_eq_emod_of_nonneg a (Int.le_of_lt hb)]
  exact Int.emod_lt_of_pos a hb
theorem atI_of {xs : List V} {i : Int} (h0 : 0 ≤ i) (h1 : i < xs.length) : ∃ v, xs[i.toNat]? = some v ∧ atI xs i = some v := by
  have h : i.toNat < xs.length := by omega
  refine ⟨xs[i.toNat], List.getElem?_eq_getElem h, ?_⟩
  have e : atI xs ((i.toNat : Nat) : Int) = some xs[i.toNat] := atI_nat (List.getElem?_eq_getElem h)
  rwa [Int.toNat_of_nonneg h0] at e
theorem prime_at (i : Int) (h0 : 0 ≤ i) (h1 : i < 5) : ∃ q : Int, atI ([.int 2147483629, .int 2147483647, .int 2147483587, .int 2147483563, .int 2147483579] : List V) i = some (.int q) ∧ 2147483563 ≤ q ∧ q ≤ 2147483647 := by
  have h : i = 0 ∨ i = 1 ∨ i = 2 ∨ i = 3 ∨ i = 4 := by omega
  rcases h with rfl | rfl | rfl | rfl | rfl
  · exact ⟨_, rfl, by decide, by decide⟩
  · exact ⟨_, rfl, by decide, by decide⟩
  · exact ⟨_, rfl, by decide, by decide⟩
  · exact ⟨_, rfl, by decide, by decide⟩
  · exact ⟨_, rfl, by decide, by decide⟩
theorem scDraw : FnScope ["_law_feed_here", "_law_many", "_law_digit", "_law_at", "_law_cell", "_law_primes", "_law_prime", "_law_mixed"] ["_law_feed_here", "_law_many"] (defScope sDraw) :=
  ⟨rfl, rfl, rfl, by decide +kernel, rfl, by decide +kernel, by decide +kernel⟩
section
variable {P : Program} {w : World} {K : PySem.W.Frag} {mg : Str → Option Value} {base : Heap}
theorem ok_draw {f : Addr} {fd : FuncData} (F : Fun K "_law_draw" "_law_draw" sDraw f fd) (T : Txt mg) : FnOk P w K mg base CX0 1 f fd ["_law_feed_here", "_law_many"] spDraw := by
  refine F.ok scDraw (fun vs H Q E h => ?_) (fun cdv A outer s H vs Q E hr h => ?_)
  · obtain ⟨d, c, ns, n, m, rfl, _⟩ := h
    rfl
  · obtain ⟨d, c, ns, n, m, rfl, FD, hn, hm0, hm, k⟩ := h
    have hu := hu_of hr
    have nd := scDraw.nd
    obtain ⟨⟨l, l0, hd⟩, hc, hl⟩ := id FD
    refine ⟨_, (pss_cons (ps_if (pt_cmpR op_gt (pe_dget hu (pv 0) pe_str (fun _ _ => rfl)) pe_int (nomark _))
      (pss_cons (ps_set (i := 2) nd rfl (.inl rfl) (pe_op op_modN (pe_callTy call_int1 (by rfl) T.int (by decide +kernel) (pa_cons (pe_dget hu (pv 0) pe_str (fun _ _ => rfl)) pa_nil)) (pv 1)))
    (pss_cons (ps_dput hu (pv 0) pe_str (pe_op op_fdivN (pe_dget hu (pv 0) pe_str (fun _ _ => rfl)) (pv 1)) rfl)
    (pss_one (ps_ret (pv 2)))))
      pss_nil)
    (pss_cons (ps_set (i := 3) nd rfl (.inl rfl) (pe_dget hu (pv 0) pe_str (fun _ _ => rfl)))
    (pss_cons (ps_dput hu (pv 0) pe_str (pe_op op_add (pv 3) pe_int) rfl)
    (pss_cons (ps_set (i := 4) nd rfl (.inl rfl) (pe_op op_add (pe_op op_mul pe_int (pv 3)) pe_int))
    (C8.pss_cut (ps_if (pt_cmpR (op_neD hr.units) (pe_dget hu (pv 0) pe_str (fun _ _ => rfl)) (pe_lst pa_nil) (nomark _))
      (pss_one (ps_set (i := 4) nd rfl (.inl rfl) (pe_ix ix_list (pe_dget hu (pv 0) pe_str (fun _ _ => rfl)) (pe_op op_modN (pe_callTy call_int1 (by rfl) T.int (by decide +kernel) (pa_cons (pv 3) pa_nil)) (pe_callB call_len_seq (by rfl) T.len (by decide +kernel) (pa_cons (pe_dget hu (pv 0) pe_str (fun _ _ => rfl)) pa_nil))) (fun _ _ => rfl))))
      pss_nil)
    (C8.pss_cut (ps_if (PW.pt (pw_and (pt_cmpR op_lt (pv 3) (pe_callB call_len_seq (by rfl) T.len (by decide +kernel) (pa_cons (pe_dget hu (pv 0) pe_str (fun _ _ => rfl)) pa_nil)) (nomark _)) (pw_and1 (pt_cmpR op_ge (pe_callB call_abs (by rfl) T.abs (by decide +kernel) (pa_cons (pv 4) pa_nil)) (pe_op op_pow pe_int pe_int) (nomark _)))))
      (pss_cons (ps_dput hu (pv 0) pe_str (pe_op op_fdivN (pe_op op_sub (pe_callB call_abs (by rfl) T.abs (by decide +kernel) (pa_cons (pv 4) pa_nil)) (pe_op op_pow pe_int pe_int)) (pv 1)) rfl)
    (pss_one (ps_ret (pe_op op_modN (pe_op op_sub (pe_callB call_abs (by rfl) T.abs (by decide +kernel) (pa_cons (pv 4) pa_nil)) (pe_op op_pow pe_int pe_int)) (pv 1)))))
      pss_nil)
    (pss_cons (ps_set (i := 5) nd rfl (.inl rfl) (pe_lst (pa_cons pe_int (pa_cons pe_int (pa_cons pe_int (pa_cons pe_int (pa_cons pe_int pa_nil)))))))
    (pss_cons (ps_set (i := 6) nd rfl (.inl rfl) (pe_ix ix_list (pv 5) (pe_op op_modN (pe_callTy call_int1 (by rfl) T.int (by decide +kernel) (pa_cons (pv 3) pa_nil)) pe_int) (fun _ _ => rfl)))
    (pss_cons (ps_set (i := 7) nd rfl (.inl rfl) (pe_op op_modN (pe_callTy call_int1 (by rfl) T.int (by decide +kernel) (pa_cons (pe_op op_add (pe_op op_add (pe_op op_add (pe_op op_mul (pe_op op_modN (pe_callTy call_int1 (by rfl) T.int (by decide +kernel) (pa_cons (pv 4) pa_nil)) (pv 6)) pe_int) (pe_op op_mul (pe_op op_mul pe_int (pv 3)) (pv 3))) (pe_op op_mul pe_int (pv 3))) pe_int) pa_nil)) (pv 6)))
    (pss_cons (ps_set (i := 7) nd rfl (.inl rfl) (pe_op op_modN (pe_callTy call_int1 (by rfl) T.int (by decide +kernel) (pa_cons (pe_op op_mul (pv 7) (pe_op op_add (pv 7) pe_int)) pa_nil)) (pe_ix ix_list (pv 5) (pe_op op_modN (pe_callTy call_int1 (by rfl) T.int (by decide +kernel) (pa_cons (pe_op op_add (pv 3) pe_int) pa_nil)) pe_int) (fun _ _ => rfl))))
    (pss_one (ps_ret (pe_op op_modN (pe_callTy call_int1 (by rfl) T.int (by decide +kernel) (pa_cons (pe_op op_fdivN (pe_op op_modN (pe_callTy call_int1 (by rfl) T.int (by decide +kernel) (pa_cons (pe_op op_mul (pv 7) (pv 7)) pa_nil)) pe_int) pe_int) pa_nil)) (pv 1)))))))))))))), ?_⟩
    have gL : DGet H d (.str "left") (some (.int l)) := by
      have := DGet.k (k := kL) hd
      rwa [fk_left] at this
    -- if feed['left'] > 0
    refine ⟨.ref d, rfl, d, _, rfl, gL, _, _, rfl, rfl, _, rfl, ite2 (fun hpos => ?_) (fun hneg => ?_)⟩
    · have lpos : 0 < l := of_decide_eq_true hpos
      refine ⟨.ref d, rfl, d, _, rfl, gL, .inl ⟨_, rfl, .int m, rfl, _, _, rfl, rfl, (by omega), ?_⟩⟩
      refine ⟨.ref d, rfl, d, _, rfl, gL, .int m, rfl, _, _, rfl, rfl, ⟨by omega, by omega⟩, .ref d, rfl, d, _, rfl, DPut.k (k := kL) hd (small1000 (by show 3 ≤ 1000; decide)), ?_⟩
      refine ⟨_, rfl, ?_⟩
      rw [fk_put_left]
      exact k _ _ n (fmod_lo l hm0) (fmod_hi l hm0) (by omega) (FD.put (fdiv_nn l0 hm0)) Keep.put
    · -- at = feed['at'] ..
      have gA : DGet H d (.str "at") (some (.int n)) := by
        have := DGet.k (k := kA) hd
        rwa [fk_at] at this
      refine ⟨.ref d, rfl, d, _, rfl, gA, ?_⟩
      refine ⟨.int n, rfl, _, _, rfl, rfl, .ref d, rfl, d, _, rfl, DPut.k (k := kA) hd (small1000 (by show 3 ≤ 1000; decide)), ?_⟩
      rw [fk_put_at]
      have F1 : Feed (upd H d (.dK (fk c ((n + 1 : Nat) : Int) l))) d c ns (n + 1) := FD.put l0
      have K1 : Keep d H (upd H d (.dK (fk c ((n + 1 : Nat) : Int) l))) := Keep.put
      rw [show ((n : Int) + 1) = ((n + 1 : Nat) : Int) by omega]
      generalize upd H d (.dK (fk c ((n + 1 : Nat) : Int) l)) = H1 at F1 K1 ⊢
      clear hneg gA gL hd
      obtain ⟨⟨l1, l10, hd⟩, hc1, _⟩ := id F1
      have gC : DGet H1 d (.str "cells") (some (.ref c)) := by
        have := DGet.k (k := kC) hd
        rwa [fk_cells] at this
      -- cell = 37 * at + 11
      refine ⟨.int n, rfl, _, _, rfl, rfl, .inl ⟨by decide, by decide⟩, _, _, rfl, rfl, ?_⟩
      -- if cells != []: cell = ..
      refine ⟨fun σ H2 => ∃ z : Int, σ = [some (.ref d), some (.int m), none, some (.int n), some (.int z), none, none, none] ∧ Feed H2 d c ns (n + 1) ∧ Keep d H H2, ?_, ?_⟩
      · refine ⟨.ref d, rfl, d, _, rfl, gC, Nat.zero_le _, fun p np => ?_⟩
        have F2 := F1.new (o := .lst []) np
        have K2 := K1.trans (Keep.new (d := d) (o := .lst []) np)
        have hp2 : (upd H1 p (.lst [])) p = some (.lst []) := upd_same
        generalize upd H1 p (.lst []) = H2 at F2 K2 hp2 ⊢
        obtain ⟨⟨l2, l20, hd2⟩, hc2, _⟩ := id F2
        have gC2 : DGet H2 d (.str "cells") (some (.ref c)) := by
          have := DGet.k (k := kC) hd2
          rwa [fk_cells] at this
        refine ⟨.list (ns.map PyData.int), .list [], .lst (.inl (.inl hc2)) (dpInts ns), .lst (.inl (.inl hp2)) .nil, shInts ns, rfl, _, rfl, ?_⟩
        cases ns with
        | nil => exact iteF ⟨_, rfl, F2, K2⟩
        | cons z0 zs =>
          refine iteT ?_
          have hlen : 0 < ((z0 :: zs).map V.int).length := by simp
          obtain ⟨v, e1, e2⟩ := atI_of (xs := (z0 :: zs).map V.int) (i := (n : Int).fmod (((z0 :: zs).map V.int).length : Int)) (fmod_lo _ (by omega)) (fmod_hi _ (by omega))
          obtain ⟨z, rfl⟩ := map_int e1
          exact ⟨.ref d, rfl, d, _, rfl, gC2, .int n, rfl, .inl ⟨_, rfl, .ref d, rfl, d, _, rfl, gC2, c, _, rfl, .inl (.inl (.inl hc2)), _, _, rfl, rfl, by omega, c, _, _, _, rfl, rfl, .inl (.inl hc2), e2, z, rfl, F2, K2⟩⟩
      rintro σ H2 ⟨z, rfl, F2, K2⟩
      clear gC hc1 hd K1 F1
      obtain ⟨⟨l2, l20, hd2⟩, hc2, _⟩ := id F2
      have gC2 : DGet H2 d (.str "cells") (some (.ref c)) := by
        have := DGet.k (k := kC) hd2
        rwa [fk_cells] at this
      -- if at < len(cells) and abs(cell) >= 10 ** 18
      refine ⟨fun σ H3 => σ = [some (.ref d), some (.int m), none, some (.int n), some (.int z), none, none, none] ∧ Feed H3 d c ns (n + 1) ∧ Keep d H H3, ?_, ?_⟩
      · have habs : 0 ≤ (if z < 0 then -z else z) := by split <;> omega
        refine ⟨.int n, rfl, .ref d, rfl, d, _, rfl, gC2, c, _, rfl, .inl (.inl (.inl hc2)), _, _, rfl, rfl, _, rfl, ?_⟩
        refine ite2 (fun _ => ?_) (fun hlt => ?_)
        · refine ⟨.int z, rfl, z, rfl, _, _, rfl, rfl, ⟨by decide, by decide, by decide⟩, _, _, rfl, rfl, _, rfl, ?_⟩
          refine ite2 (fun hge => ?_) (fun hlt => ?_)
          · have h10 : (10 : Int) ^ (18 : Int).toNat ≤ (if z < 0 then -z else z) := of_decide_eq_true hge
            have hnn : 0 ≤ (if z < 0 then -z else z) - (10 : Int) ^ (18 : Int).toNat := by omega
            refine ⟨.int z, rfl, z, rfl, _, _, rfl, rfl, ⟨by decide, by decide, by decide⟩, _, _, rfl, rfl, .int m, rfl, _, _, rfl, rfl, ⟨by omega, by omega⟩, .ref d, rfl, d, _, rfl, DPut.k (k := kL) hd2 (small1000 (by show 3 ≤ 1000; decide)), ?_⟩
            rw [fk_put_left]
            refine ⟨.int z, rfl, z, rfl, _, _, rfl, rfl, ⟨by decide, by decide, by decide⟩, _, _, rfl, rfl, .int m, rfl, _, _, rfl, rfl, by omega, ?_⟩
            exact k _ _ (n + 1) (fmod_lo _ hm0) (fmod_hi _ hm0) (by omega) (F2.put (fdiv_nn hnn hm0)) (K2.trans Keep.put)
          · exact ⟨rfl, F2, K2⟩
        · exact iteF ⟨rfl, F2, K2⟩
      rintro σ H3 ⟨rfl, F3, K3⟩
      clear gC2 hc2 hd2 F2 K2
      -- primes
      refine ⟨by show 5 ≤ sizeLine; decide, fun p np => ?_⟩
      have F4 := F3.new (o := .lst [.int 2147483629, .int 2147483647, .int 2147483587, .int 2147483563, .int 2147483579]) np
      have K4 := K3.trans (Keep.new (d := d) (o := .lst [.int 2147483629, .int 2147483647, .int 2147483587, .int 2147483563, .int 2147483579]) np)
      have hp4 : (upd H3 p (.lst [.int 2147483629, .int 2147483647, .int 2147483587, .int 2147483563, .int 2147483579])) p = some (.lst [.int 2147483629, .int 2147483647, .int 2147483587, .int 2147483563, .int 2147483579]) := upd_same
      generalize upd H3 p (.lst [.int 2147483629, .int 2147483647, .int 2147483587, .int 2147483563, .int 2147483579]) = H4 at F4 K4 hp4 ⊢
      obtain ⟨q1, a1, lo1, hi1⟩ := prime_at ((n : Int).fmod 5) (fmod_lo _ (by decide)) (fmod_hi _ (by decide))
      obtain ⟨q2, a2, lo2, hi2⟩ := prime_at (((n : Int) + 2).fmod 5) (fmod_lo _ (by decide)) (fmod_hi _ (by decide))
      -- prime = primes[int(at) % 5]
      refine ⟨.ref p, rfl, .int n, rfl, .inl ⟨_, rfl, _, _, rfl, rfl, (by show (5 : Int) ≠ 0; decide), p, _, _, _, rfl, rfl, .inl (.inl hp4), a1, ?_⟩⟩
      obtain ⟨y0, hy0⟩ : ∃ y, y = z.fmod q1 := ⟨_, rfl⟩
      have m1l : 0 ≤ y0 := by rw [hy0]; exact fmod_lo z (by omega)
      have m1h : y0 < q1 := by rw [hy0]; exact fmod_hi z (by omega)
      obtain ⟨x1, hx1⟩ : ∃ x, x = y0 * 48271 + 40699 * (n : Int) * (n : Int) + 69621 * (n : Int) + 7 := ⟨_, rfl⟩
      obtain ⟨y1, hy1⟩ : ∃ y, y = x1.fmod q1 := ⟨_, rfl⟩
      have m2l : 0 ≤ y1 := by rw [hy1]; exact fmod_lo x1 (by omega)
      have m2h : y1 < q1 := by rw [hy1]; exact fmod_hi x1 (by omega)
      obtain ⟨x2, hx2⟩ : ∃ x, x = y1 * (y1 + 16807) := ⟨_, rfl⟩
      obtain ⟨y2, hy2⟩ : ∃ y, y = x2.fmod q2 := ⟨_, rfl⟩
      have m3l : 0 ≤ y2 := by rw [hy2]; exact fmod_lo x2 (by omega)
      have m3h : y2 < q2 := by rw [hy2]; exact fmod_hi x2 (by omega)
      refine ⟨.int z, rfl, .inl ⟨_, rfl, .int q1, rfl, _, _, rfl, rfl, (by show q1 ≠ 0; omega), y0, _, hy0 ▸ rfl, rfl, .inr ⟨by decide, by decide⟩, .int n, rfl, _, _, rfl, rfl, .inl ⟨by decide, by decide⟩, .int n, rfl, _, n, rfl, rfl, .inr ⟨by omega, by omega⟩,
        _, _, rfl, rfl, .int n, rfl, _, _, rfl, rfl, .inl ⟨by decide, by decide⟩, _, _, rfl, rfl, _, _, rfl, rfl, .inl ⟨x1, hx1 ▸ rfl, .int q1, rfl, _, _, rfl, rfl, (by show q1 ≠ 0; omega), ?_⟩⟩⟩
      refine ⟨.int y1, hy1 ▸ rfl, .int y1, hy1 ▸ rfl, y1, _, rfl, rfl, y1, y1 + 16807, rfl, rfl, .inl ⟨by omega, by omega⟩, .inl ⟨x2, hx2 ▸ rfl, .ref p, rfl, .int n, rfl, _, _, rfl, rfl, .inl ⟨_, rfl, _, _, rfl, rfl, (by show (5 : Int) ≠ 0; decide), p, _, _, _, rfl, rfl, .inl (.inl hp4), a2, _, q2, rfl, rfl, (by show q2 ≠ 0; omega), ?_⟩⟩⟩
      refine ⟨.int y2, hy2 ▸ rfl, .int y2, hy2 ▸ rfl, y2, y2, rfl, rfl, .inl ⟨by omega, by omega⟩, .inl ⟨_, rfl, _, _, rfl, rfl, (by show (2147483549 : Int) ≠ 0; decide), _, _, rfl, rfl, ⟨(by decide), (by decide)⟩, .inl ⟨_, rfl, .int m, rfl, _, m, rfl, rfl, (by show m ≠ 0; omega), ?_⟩⟩⟩
      exact k _ _ (n + 1) (fmod_lo _ hm0) (fmod_hi _ hm0) (by omega) F4 K4
/-! ### pick -/
def spPickL : Sp := fun vs H Q _ => ∃ (d c : Addr) (ns : List Int) (n : Nat) (a : Addr) (xs : List V), vs = [.ref d, .ref a] ∧ Feed H d c ns n ∧ n < 1000000000 ∧ H a = some (.lst xs) ∧ 0 < xs.length ∧ xs.length < 1000000 ∧
  ∀ (x : V) (H' : Hp) (n' : Nat), x ∈ xs → n' ≤ n + 1 → Feed H' d c ns n' → Keep d H H' → Q x H'
def spPickS : Sp := fun vs H Q _ => ∃ (d c : Addr) (ns : List Int) (n : Nat) (z : Str), vs = [.ref d, .str z] ∧ Feed H d c ns n ∧ n < 1000000000 ∧ 0 < z.cps.toList.length ∧ z.cps.toList.length < 10000 ∧
  ∀ (x : Nat) (H' : Hp) (n' : Nat), x ∈ z.cps.toList → n' ≤ n + 1 → Feed H' d c ns n' → Keep d H H' → Q (.str ⟨#[x]⟩) H'
theorem scPick : FnScope ["_law_feed_here", "_law_options"] ["_law_feed_here", "_law_options"] (defScope sPick) := ⟨rfl, rfl, rfl, by decide +kernel, rfl, by decide +kernel, by decide +kernel⟩
theorem ok_pickL {f fD : Addr} {fd fdD : FuncData} (F : Fun K "_law_pick" "_law_pick" sPick f fd) (T : Txt mg) (D : DefAt K mg "_law_draw" sDraw ["_law_feed_here", "_law_many"] fD fdD) : FnOk P w K mg base CX0 2 f fd ["_law_feed_here", "_law_options"] spPickL := by
  have GD : FnOk P w K mg base CX0 1 fD fdD ["_law_feed_here", "_law_many"] spDraw := ok_draw D.F T
  refine F.ok scPick (fun vs H Q E h => ?_) (fun cdv A outer s H vs Q E hr h => ?_)
  · obtain ⟨d, c, ns, n, a, xs, rfl, _⟩ := h
    rfl
  · obtain ⟨d, c, ns, n, a, xs, rfl, FD, hn, ha, h0, hm, k⟩ := h
    have hu := hu_of hr
    have nd := scPick.nd
    refine ⟨_, (pss_one (ps_ret (pe_ix ix_list (pv 1) (pe_call GD (hr.mono (by decide)) (by rfl) D.M D.F.kp D.B .nil pass0 (pa_cons (pv 0) (pa_cons (pe_callB call_len_seq (by rfl) T.len (by decide +kernel) (pa_cons (pv 1) pa_nil)) pa_nil))) (fun _ _ => rfl)))), ?_⟩
    refine ⟨.ref a, rfl, .ref d, rfl, .ref a, rfl, a, xs, rfl, .inl (.inl (.inl ha)), ?_⟩
    refine ⟨d, c, ns, n, _, rfl, FD, hn, (by omega), (by omega), fun r H' n' r0 r1 hn' F' K' => ?_⟩
    have ha' : H' a = some (.lst xs) := K' _ _ (fun e => by
      obtain ⟨l, _, hd⟩ := FD.fd
      rw [e, hd] at ha
      cases ha) ha
    obtain ⟨v, e1, e2⟩ := atI_of r0 r1
    exact ⟨a, xs, r, v, rfl, rfl, .inl (.inl ha'), e2, k v H' n' (List.mem_of_getElem? e1) hn' F' K'⟩
theorem ok_pickS {f fD : Addr} {fd fdD : FuncData} (F : Fun K "_law_pick" "_law_pick" sPick f fd) (T : Txt mg) (D : DefAt K mg "_law_draw" sDraw ["_law_feed_here", "_law_many"] fD fdD) : FnOk P w K mg base CX0 2 f fd ["_law_feed_here", "_law_options"] spPickS := by
  have GD : FnOk P w K mg base CX0 1 fD fdD ["_law_feed_here", "_law_many"] spDraw := ok_draw D.F T
  refine F.ok scPick (fun vs H Q E h => ?_) (fun cdv A outer s H vs Q E hr h => ?_)
  · obtain ⟨d, c, ns, n, z, rfl, _⟩ := h
    rfl
  · obtain ⟨d, c, ns, n, z, rfl, FD, hn, h0, hm, k⟩ := h
    have hu := hu_of hr
    have nd := scPick.nd
    have ez : z.length = z.cps.toList.length := rfl
    refine ⟨_, (pss_one (ps_ret (pe_item_str (pv 1) (pe_call GD (hr.mono (by decide)) (by rfl) D.M D.F.kp D.B .nil pass0 (pa_cons (pv 0) (pa_cons (pe_callB call_len_str (by rfl) T.len (by decide +kernel) (pa_cons (pv 1) pa_nil)) pa_nil))) (fun _ _ => rfl)))), ?_⟩
    refine ⟨.str z, rfl, .ref d, rfl, .str z, rfl, z, rfl, (by rw [ez]; exact Nat.le_of_lt (Nat.lt_of_lt_of_le hm (by decide))), ?_⟩
    refine ⟨d, c, ns, n, _, rfl, FD, hn, (by omega), (by omega), fun r H' n' r0 r1 hn' F' K' => ?_⟩
    have hlt : r.toNat < z.cps.size := by
      have : z.cps.size = z.cps.toList.length := rfl
      omega
    refine ⟨z, r, z.cps[r.toNat], rfl, rfl, r0, by omega, by omega, Array.getElem?_eq_getElem hlt, ?_⟩
    exact k _ H' n' (Array.getElem_mem_toList hlt) hn' F' K'
/-! ### data at an address -/
def kD : Key → PyData
  | .inl i => .int i
  | .inr s => .str s
mutual
/-- v is the datum x; none of its objects is in X -/
inductive DV (X : Addr → Prop) (H : Hp) : V → PyData → Prop
  | non : DV X H .non .none
  | bl (b : Bool) : DV X H (.bl b) (.bool b)
  | int (i : Int) : DV X H (.int i) (.int i)
  | str (x : Str) : DV X H (.str x) (.str x)
  | lst {a : Addr} {xs : List V} {ds : List PyData} : ¬ X a → H a = some (.lst xs) → DVs X H xs ds → DV X H (.ref a) (.list ds)
  | tup {a : Addr} {xs : List V} {ds : List PyData} : ¬ X a → H a = some (.tup xs) → DVs X H xs ds → DV X H (.ref a) (.tuple ds)
  | dic {a : Addr} {kvs : List (Key × V)} {ds : List (PyData × PyData)} : ¬ X a → H a = some (.dK kvs) → DVk X H kvs ds → DV X H (.ref a) (.dict ds)
inductive DVs (X : Addr → Prop) (H : Hp) : List V → List PyData → Prop
  | nil : DVs X H [] []
  | cons {v : V} {r : List V} {x : PyData} {ds : List PyData} : DV X H v x → DVs X H r ds → DVs X H (v :: r) (x :: ds)
inductive DVk (X : Addr → Prop) (H : Hp) : List (Key × V) → List (PyData × PyData) → Prop
  | nil : DVk X H [] []
  | cons {k : Key} {v : V} {r : List (Key × V)} {x : PyData} {ds : List (PyData × PyData)} : DV X H v x → DVk X H r ds → DVk X H ((k, v) :: r) ((kD k, x) :: ds)
end
mutual
theorem DV.keep {X Y : Addr → Prop} {H H' : Hp} (K : ∀ b o, ¬ X b → H b = some o → H' b = some o ∧ ¬ Y b) : ∀ {v : V} {x : PyData}, DV X H v x → DV Y H' v x
  | _, _, .non => .non
  | _, _, .bl b => .bl b
  | _, _, .int i => .int i
  | _, _, .str x => .str x
  | _, _, .lst n h r => .lst (K _ _ n h).2 (K _ _ n h).1 (DVs.keep K r)
  | _, _, .tup n h r => .tup (K _ _ n h).2 (K _ _ n h).1 (DVs.keep K r)
  | _, _, .dic n h r => .dic (K _ _ n h).2 (K _ _ n h).1 (DVk.keep K r)
theorem DVs.keep {X Y : Addr → Prop} {H H' : Hp} (K : ∀ b o, ¬ X b → H b = some o → H' b = some o ∧ ¬ Y b) : ∀ {v : List V} {x : List PyData}, DVs X H v x → DVs Y H' v x
  | _, _, .nil => .nil
  | _, _, .cons h r => .cons (DV.keep K h) (DVs.keep K r)
theorem DVk.keep {X Y : Addr → Prop} {H H' : Hp} (K : ∀ b o, ¬ X b → H b = some o → H' b = some o ∧ ¬ Y b) : ∀ {v : List (Key × V)} {x : List (PyData × PyData)}, DVk X H v x → DVk Y H' v x
  | _, _, .nil => .nil
  | _, _, .cons h r => .cons (DV.keep K h) (DVk.keep K r)
end
theorem DVs.mem {X : Addr → Prop} {H : Hp} {v : V} : ∀ {xs : List V} {ds : List PyData}, DVs X H xs ds → v ∈ xs → ∃ x, x ∈ ds ∧ DV X H v x
  | _, _, .nil, h => by cases h
  | _, _, .cons h r, hm => by
    rcases List.mem_cons.mp hm with rfl | hm
    · exact ⟨_, List.mem_cons_self .., h⟩
    · obtain ⟨x, hx, hd⟩ := DVs.mem r hm
      exact ⟨x, List.mem_cons_of_mem _ hx, hd⟩
theorem DVs.append {X : Addr → Prop} {H : Hp} : ∀ {xs ys : List V} {ds es : List PyData}, DVs X H xs ds → DVs X H ys es → DVs X H (xs ++ ys) (ds ++ es)
  | _, _, _, _, .nil, s => s
  | _, _, _, _, .cons h r, s => .cons h (DVs.append r s)
theorem DVs.length {X : Addr → Prop} {H : Hp} : ∀ {xs : List V} {ds : List PyData}, DVs X H xs ds → xs.length = ds.length
  | _, _, .nil => rfl
  | _, _, .cons _ r => by simp [DVs.length r]
theorem dvs_init {X : Addr → Prop} {H : Hp} : ∀ {xs : List V} {v : V} {ds es : List PyData}, es.length = 1 → DVs X H (xs ++ [v]) (ds ++ es) → DVs X H xs ds
  | [], v, ds, es, he, h => by
    cases ds with
    | nil => exact .nil
    | cons d r =>
      have := h.length
      simp only [List.length_append, List.length_cons, List.length_nil, List.nil_append, List.cons_append] at this
      omega
  | x :: r, v, ds, es, he, h => by
    cases ds with
    | nil =>
      have := h.length
      simp only [List.length_append, List.length_cons, List.length_nil, List.nil_append, List.cons_append] at this
      omega
    | cons d s =>
      cases h with
      | cons h1 h2 => exact .cons h1 (dvs_init he h2)
/-- not tracked in H -/
def Old (H : Hp) : Addr → Prop := fun a => H a ≠ none
theorem old_of {H : Hp} {a : Addr} {o : HO} (h : H a = some o) : Old H a := fun e => by rw [h] at e; cases e
theorem Keep.free {d p : Addr} {H H' : Hp} (K : Keep d H H') (nd : p ≠ d) (h : H' p = none) : ¬ Old H p := fun e => by
  cases q : H p with
  | none => exact e q
  | some o => rw [K _ _ nd q] at h; cases h
theorem Keep.old {d : Addr} {H H' : Hp} (K : Keep d H H') {X : Addr → Prop} (hX : X d) : ∀ b o, ¬ X b → H b = some o → H' b = some o ∧ ¬ X b :=
  fun b o n e => ⟨K b o (fun z => n (z ▸ hX)) e, n⟩
theorem Feed.old {H : Hp} {d c : Addr} {ns : List Int} {n : Nat} (F : Feed H d c ns n) : Old H d := by
  obtain ⟨l, _, hd⟩ := F.fd
  exact old_of hd
theorem Old.mono {d : Addr} {H H' : Hp} (K : Keep d H H') {X : Addr → Prop} (hd : Old H' d) {a : Addr} (h : Old H a) : Old H' a := by
  by_cases e : a = d
  · rw [e]; exact hd
  · cases q : H a with
    | none => exact absurd q h
    | some o => exact old_of (K _ _ e q)
/-! ### a new object -/
theorem Feed.nd {H : Hp} {d c p : Addr} {ns : List Int} {n : Nat} (F : Feed H d c ns n) (h : H p = none) : p ≠ d := fun e => by
  obtain ⟨l, _, hd⟩ := F.fd
  rw [e, hd] at h
  cases h
theorem nu {H : Hp} {d c p : Addr} {ns : List Int} {n : Nat} (F : Feed H d c ns n) (np : H p = none) :
    ∃ U : HO → Hp, (∀ o, upd H p o = U o) ∧ (∀ o, Feed (U o) d c ns n) ∧ (∀ o, Keep d H (U o)) ∧ (∀ o, U o p = some o) ∧ p ≠ d :=
  ⟨fun o => upd H p o, fun _ => rfl, fun _ => F.new np, fun _ => Keep.new np, fun _ => upd_same, F.nd np⟩
/-- an object that was laid anew is filled -/
theorem fu {Ha Hc : Hp} {d c p : Addr} {ns : List Int} {n : Nat} (F : Feed Hc d c ns n) (np : Ha p = none) (K : ∀ b o, b ≠ d → b ≠ p → Ha b = some o → Hc b = some o) (nd : p ≠ d) (npc : p ≠ c) :
    ∃ U : HO → Hp, (∀ o, upd Hc p o = U o) ∧ (∀ o, Feed (U o) d c ns n) ∧ (∀ o, Keep d Ha (U o)) ∧ (∀ o, U o p = some o) ∧ ∀ o b, b ≠ p → U o b = Hc b := by
  refine ⟨fun o => upd Hc p o, fun _ => rfl, fun o => ?_, fun o => (fun b x nb e => ?_), fun _ => upd_same, fun o b nb => upd_ne nb⟩
  · obtain ⟨⟨l, l0, e⟩, hc, hl⟩ := F
    exact ⟨⟨l, l0, Eq.trans (upd_ne nd.symm) e⟩, Eq.trans (upd_ne npc.symm) hc, hl⟩
  · have nbp : b ≠ p := ne_of_none e np
    exact Eq.trans (upd_ne nbp) (K b x nb nbp e)
theorem Feed.nc {H : Hp} {d c p : Addr} {ns : List Int} {n : Nat} (F : Feed H d c ns n) (h : H p = none) : p ≠ c := fun e => by
  rw [e, F.cl] at h
  cases h
theorem Feed.kl {H H' : Hp} {d c a : Addr} {ns : List Int} {n : Nat} {xs : List V} (F : Feed H d c ns n) (K : Keep d H H') (h : H a = some (.lst xs)) : H' a = some (.lst xs) := K _ _ (fun e => by
  obtain ⟨l, _, hd⟩ := F.fd
  rw [e, hd] at h
  cases h) h
/-! ### names and levels -/
def lowB (c : Nat) : Bool := decide (97 ≤ c) && decide (c ≤ 122)
def wordB (z : Str) : Bool := decide (1 ≤ z.cps.toList.length) && decide (z.cps.toList.length ≤ 8) && z.cps.toList.all lowB
def nameD : PyData → Bool
  | .str z => wordB z
  | _ => false
def levelD : PyData → Bool
  | .int _ => true
  | _ => false
def tyD : PyData → String
  | .none => "NoneType"
  | .bool _ => "bool"
  | .int _ => "int"
  | .str _ => "str"
  | .list _ => "list"
  | .tuple _ => "tuple"
  | .dict _ => "dict"
def Sm : PyData → Prop
  | .str z => z.cps.toList.length ≤ 1000 ∧ ∀ c ∈ z.cps.toList, c < 1114112
  | _ => True
theorem DV.ty {X : Addr → Prop} {K : PySem.W.Frag} {H : Hp} {v : V} {x : PyData} (h : DV X H v x) : TyX K H v (.type (tyD x)) := by
  cases h with
  | non => exact .base .non
  | bl b => exact .base (.bl b)
  | int i => exact .base (.int i)
  | str x => exact .base (.str x)
  | lst _ e _ => exact .base (.lst e)
  | tup _ e _ => exact .base (.tup e)
  | dic _ e _ => exact .base (.dK e)
def isstrB : PyData → Bool
  | .str _ => true
  | _ => false
theorem is_strD {K : PySem.W.Frag} : ∀ x : PyData, PySem.W.kitOne K (.type (tyD x)) (.type "str") = some (isstrB x)
  | .none => kit_ty (show kitB "NoneType" "str" = some false by decide +kernel)
  | .bool _ => kit_ty (show kitB "bool" "str" = some false by decide +kernel)
  | .int _ => kit_ty (show kitB "int" "str" = some false by decide +kernel)
  | .str _ => kit_ty (show kitB "str" "str" = some true by decide +kernel)
  | .list _ => kit_ty (show kitB "list" "str" = some false by decide +kernel)
  | .tuple _ => kit_ty (show kitB "tuple" "str" = some false by decide +kernel)
  | .dict _ => kit_ty (show kitB "dict" "str" = some false by decide +kernel)
def isintB : PyData → Bool
  | .bool _ => true
  | .int _ => true
  | _ => false
theorem is_intD {K : PySem.W.Frag} : ∀ x : PyData, PySem.W.kitOne K (.type (tyD x)) (.type "int") = some (isintB x)
  | .none => kit_ty (show kitB "NoneType" "int" = some false by decide +kernel)
  | .bool _ => kit_ty (show kitB "bool" "int" = some true by decide +kernel)
  | .int _ => kit_ty (show kitB "int" "int" = some true by decide +kernel)
  | .str _ => kit_ty (show kitB "str" "int" = some false by decide +kernel)
  | .list _ => kit_ty (show kitB "list" "int" = some false by decide +kernel)
  | .tuple _ => kit_ty (show kitB "tuple" "int" = some false by decide +kernel)
  | .dict _ => kit_ty (show kitB "dict" "int" = some false by decide +kernel)
def isboolB : PyData → Bool
  | .bool _ => true
  | _ => false
theorem is_boolD {K : PySem.W.Frag} : ∀ x : PyData, PySem.W.kitOne K (.type (tyD x)) (.type "bool") = some (isboolB x)
  | .none => kit_ty (show kitB "NoneType" "bool" = some false by decide +kernel)
  | .bool _ => kit_ty (show kitB "bool" "bool" = some true by decide +kernel)
  | .int _ => kit_ty (show kitB "int" "bool" = some false by decide +kernel)
  | .str _ => kit_ty (show kitB "str" "bool" = some false by decide +kernel)
  | .list _ => kit_ty (show kitB "list" "bool" = some false by decide +kernel)
  | .tuple _ => kit_ty (show kitB "tuple" "bool" = some false by decide +kernel)
  | .dict _ => kit_ty (show kitB "dict" "bool" = some false by decide +kernel)
def islistB : PyData → Bool
  | .list _ => true
  | _ => false
theorem is_listD {K : PySem.W.Frag} : ∀ x : PyData, PySem.W.kitOne K (.type (tyD x)) (.type "list") = some (islistB x)
  | .none => kit_ty (show kitB "NoneType" "list" = some false by decide +kernel)
  | .bool _ => kit_ty (show kitB "bool" "list" = some false by decide +kernel)
  | .int _ => kit_ty (show kitB "int" "list" = some false by decide +kernel)
  | .str _ => kit_ty (show kitB "str" "list" = some false by decide +kernel)
  | .list _ => kit_ty (show kitB "list" "list" = some true by decide +kernel)
  | .tuple _ => kit_ty (show kitB "tuple" "list" = some false by decide +kernel)
  | .dict _ => kit_ty (show kitB "dict" "list" = some false by decide +kernel)
def istupleB : PyData → Bool
  | .tuple _ => true
  | _ => false
theorem is_tupleD {K : PySem.W.Frag} : ∀ x : PyData, PySem.W.kitOne K (.type (tyD x)) (.type "tuple") = some (istupleB x)
  | .none => kit_ty (show kitB "NoneType" "tuple" = some false by decide +kernel)
  | .bool _ => kit_ty (show kitB "bool" "tuple" = some false by decide +kernel)
  | .int _ => kit_ty (show kitB "int" "tuple" = some false by decide +kernel)
  | .str _ => kit_ty (show kitB "str" "tuple" = some false by decide +kernel)
  | .list _ => kit_ty (show kitB "list" "tuple" = some false by decide +kernel)
  | .tuple _ => kit_ty (show kitB "tuple" "tuple" = some true by decide +kernel)
  | .dict _ => kit_ty (show kitB "dict" "tuple" = some false by decide +kernel)
def isdictB : PyData → Bool
  | .dict _ => true
  | _ => false
theorem is_dictD {K : PySem.W.Frag} : ∀ x : PyData, PySem.W.kitOne K (.type (tyD x)) (.type "dict") = some (isdictB x)
  | .none => kit_ty (show kitB "NoneType" "dict" = some false by decide +kernel)
  | .bool _ => kit_ty (show kitB "bool" "dict" = some false by decide +kernel)
  | .int _ => kit_ty (show kitB "int" "dict" = some false by decide +kernel)
  | .str _ => kit_ty (show kitB "str" "dict" = some false by decide +kernel)
  | .list _ => kit_ty (show kitB "list" "dict" = some false by decide +kernel)
  | .tuple _ => kit_ty (show kitB "tuple" "dict" = some false by decide +kernel)
  | .dict _ => kit_ty (show kitB "dict" "dict" = some true by decide +kernel)
def spTest (g : PyData → Bool) : Sp := fun vs H Q _ => ∃ (v : V) (x : PyData) (X : Addr → Prop), vs = [v] ∧ DV X H v x ∧ Sm x ∧ ∀ H', Same H H' → Q (.bl (g x)) H'
theorem lt_one (a b : Nat) : decide ([a] < [b]) = decide (a < b) := by
  by_cases h : a < b
  · have : [a] < [b] := List.Lex.rel h
    rw [decide_eq_true this, decide_eq_true h]
  · have : ¬ [a] < [b] := fun z => by
      cases z with
      | rel z => exact h z
      | cons z => cases z
    rw [decide_eq_false this, decide_eq_false h]
theorem chr_a : (Str.ofString "a").cps.toList = [97] := by decide +kernel
theorem chr_z : (Str.ofString "z").cps.toList = [122] := by decide +kernel
theorem not_lt_le (a b : Nat) : (!decide (a < b)) = decide (b ≤ a) := by
  by_cases h : a < b
  · rw [decide_eq_true h, decide_eq_false (by omega)]; rfl
  · rw [decide_eq_false h, decide_eq_true (by omega)]; rfl
theorem new_same {H : Hp} {p : Addr} {o : HO} (h : H p = none) : Same H (upd H p o) := fun b x e => by
  rw [upd_ne (ne_of_none e h)]
  exact e
theorem fill_same {H H' : Hp} {p : Addr} {o : HO} (h : H p = none) (k : ∀ b x, b ≠ p → H b = some x → H' b = some x) : Same H (upd H' p o) := fun b x e => by
  have nb : b ≠ p := ne_of_none e h
  rw [upd_ne nb]
  exact k b x nb e
theorem len_le {z : Str} {k : Nat} (h : z.cps.toList.length ≤ k) (hk : k ≤ 1000) : z.length ≤ sizeLine := by
  have e : z.length = z.cps.toList.length := rfl
  rw [e]
  exact Nat.le_of_lt (small1000 (Nat.le_trans h hk))
theorem scIsName : FnScope ["value", "letter"] ["value"] (defScope sIsName) := ⟨rfl, rfl, rfl, by decide +kernel, rfl, by decide +kernel, by decide +kernel⟩
theorem ok_is_name {f : Addr} {fd : FuncData} {tN : Tok} (F : Fun K "is_name" "is_name" sIsName f fd) (T : Txt mg) (mgLONGEST_NAME : mg "LONGEST_NAME" = some (.int 8 tN)) : FnOk P w K mg base CX0 1 f fd ["value"] (spTest nameD) := by
  refine F.ok scIsName (fun vs H Q E h => ?_) (fun cdv A outer s H vs Q E hr h => ?_)
  · obtain ⟨v, x, X, rfl, _⟩ := h
    rfl
  · obtain ⟨v, x, X, rfl, hv, sm, q⟩ := h
    have hu := hu_of hr
    have nd := scIsName.nd
    refine ⟨_, (C8.pss_cut (ps_if (PW.pt (pw_or (pt_not (pt_val (pe_callB call_isi (by rfl) T.isinstance (by decide +kernel) (pa_cons (pv 0) (pa_cons (pe_bltn (v := .ty "str") (by rfl) T.str (by decide +kernel) rfl) pa_nil))))) (pw_or1 (pt_not (pt_chain op_le op_le pe_int (pe_callB call_len_str (by rfl) T.len (by decide +kernel) (pa_cons (pv 0) pa_nil)) (pe_glob (v := .int 8) rfl mgLONGEST_NAME ⟨_, rfl⟩))))))
      (pss_one (ps_ret pe_bl))
      pss_nil)
    (pss_one (ps_ret (pe_callB (cr_all rfl) (by rfl) T.all (by decide +kernel) (pa_cons (pe_lc (own := [("letter", 1)]) (g := gName 1) (by rfl) nd (pi_str (pv 0)) (blkOk_by (own := [("letter", 1)]) (N := ["value", "letter"]) (sc := defScope sIsName) (by decide +kernel)) (fun _ _ _ _ _ => (pg_name (i := 1) nd rfl (Or.inl rfl))) (fun _ _ _ _ _ => pts_nil) (fun _ _ _ _ _ => (pe_chain op_le_str op_le_str pe_str (pv 1) pe_str))) pa_nil))))), ?_⟩
    refine ⟨fun σ H' => H' = H ∧ ∃ z : Str, x = .str z ∧ v = .str z ∧ σ = [some (.str z), none] ∧ 1 ≤ z.cps.toList.length ∧ z.cps.toList.length ≤ 8, ?_, ?_⟩
    · refine ⟨v, rfl, v, .ty "str", _, _, _, rfl, .ty "str", hv.ty, is_strD x, _, rfl, ?_⟩
      cases hv with
      | str z =>
        refine iteF ?_
        refine ⟨.str z, rfl, z, rfl, len_le sm.1 (by decide), _, _, rfl, rfl, _, rfl, ite2 (fun h1 => ?_) (fun h1 => ?_)⟩
        · have e1 : (1 : Int) ≤ z.length := of_decide_eq_true h1
          have e2 : z.length = z.cps.toList.length := rfl
          refine ⟨_, _, rfl, rfl, _, rfl, ?_⟩
          by_cases h8 : (z.length : Int) ≤ 8
          · rw [decide_eq_true h8]
            refine iteF ?_
            exact ⟨rfl, z, rfl, rfl, rfl, by omega, by omega⟩
          · rw [decide_eq_false h8]
            refine iteT ?_
            have e : nameD (.str z) = false := by
              show (decide (1 ≤ z.cps.toList.length) && decide (z.cps.toList.length ≤ 8) && z.cps.toList.all lowB) = false
              rw [decide_eq_false (show ¬ z.cps.toList.length ≤ 8 by omega), Bool.and_false, Bool.false_and]
            have := q H (Same.refl H)
            rw [e] at this
            exact this
        · refine ⟨_, rfl, iteT ?_⟩
          have e1 : ¬ (1 : Int) ≤ z.length := fun z => h1 (decide_eq_true z)
          have e2 : z.length = z.cps.toList.length := rfl
          have e : nameD (.str z) = false := by
            show (decide (1 ≤ z.cps.toList.length) && decide (z.cps.toList.length ≤ 8) && z.cps.toList.all lowB) = false
            rw [decide_eq_false (show ¬ 1 ≤ z.cps.toList.length by omega), Bool.false_and, Bool.false_and]
          have := q H (Same.refl H)
          rw [e] at this
          exact this
      | _ => exact iteT (q H (Same.refl H))
    · rintro σ H' ⟨rfl, z, rfl, rfl, rfl, h1, h8⟩
      refine ⟨.str z, rfl, z, rfl, fun D nD => ?_⟩
      refine lc_it walk_str (fun i Hi => ∃ acc : List Bool, Hi D = some (.lst (acc.map V.bl)) ∧ acc = (z.cps.toList.take i).map lowB ∧ ∀ b x, b ≠ D → H' b = some x → Hi b = some x) ⟨[], upd_same, rfl, fun b x nb e => by rw [upd_ne nb]; exact e⟩ (fun _ _ _ _ => trivial) ?_ ?_
      · rintro i y Hi Hj hi ⟨acc, hD, ea, hk⟩ ⟨rfl, c, hc, rfl⟩
        refine ⟨rfl, ?_⟩
        refine ⟨.str ⟨#[c]⟩, rfl, _, _, rfl, rfl, _, rfl, ?_⟩
        have el : acc.length ≤ 8 := by rw [ea, List.length_map, List.length_take]; omega
        have hci : z.cps.toList[i]? = some c := by rw [Array.getElem?_toList]; exact hc
        have ek : (z.cps.toList.take (i + 1)).map lowB = acc ++ [lowB c] := by
          rw [List.take_add_one, hci, List.map_append, ea]
          rfl
        have fin : ∀ b : Bool, b = lowB c → ∃ acc0, Hj D = some (.lst acc0) ∧ acc0.length < sizeLine ∧ ∃ acc1 : List Bool, (upd Hj D (.lst (acc0 ++ [V.bl b]))) D = some (.lst (acc1.map V.bl)) ∧ acc1 = (z.cps.toList.take (i + 1)).map lowB ∧ ∀ b' x, b' ≠ D → H' b' = some x → (upd Hj D (.lst (acc0 ++ [V.bl b]))) b' = some x := by
          intro b hb
          refine ⟨_, hD, by rw [List.length_map]; exact small1000 (by omega), acc ++ [b], by rw [upd_same, List.map_append]; rfl, by rw [ek, hb], fun b' x nb e => by rw [upd_ne nb]; exact hk b' x nb e⟩
        rw [chr_a, lt_one]
        refine ite2 (fun ha => ?_) (fun ha => ?_)
        · refine ⟨_, _, rfl, rfl, ?_⟩
          rw [chr_z, lt_one]
          rw [not_lt_le] at ha ⊢
          refine fin _ ?_
          unfold lowB
          rw [ha, Bool.true_and]
        · refine fin false ?_
          rw [not_lt_le] at ha
          unfold lowB
          cases hx : decide (97 ≤ c) with
          | true => exact absurd hx ha
          | false => rfl
      · rintro Hi ⟨acc, hD, ea, hk⟩
        refine ⟨D, acc, rfl, .inl (.inl hD), ?_⟩
        have e : acc.all id = nameD (.str z) := by
          show _ = (decide (1 ≤ z.cps.toList.length) && decide (z.cps.toList.length ≤ 8) && z.cps.toList.all lowB)
          rw [decide_eq_true h1, decide_eq_true h8, ea, show z.cps.size = z.cps.toList.length from rfl, List.take_length, List.all_map]
          rfl
        rw [e]
        exact q Hi fun b x e => hk b x (ne_of_none e nD) e
theorem scIsLevel : FnScope ["value"] ["value"] (defScope sIsLevel) := ⟨rfl, rfl, rfl, by decide +kernel, rfl, by decide +kernel, by decide +kernel⟩
theorem ok_is_level {f : Addr} {fd : FuncData} (F : Fun K "is_level" "is_level" sIsLevel f fd) (T : Txt mg) : FnOk P w K mg base CX0 1 f fd ["value"] (spTest levelD) := by
  refine F.ok scIsLevel (fun vs H Q E h => ?_) (fun cdv A outer s H vs Q E hr h => ?_)
  · obtain ⟨v, x, X, rfl, _⟩ := h
    rfl
  · obtain ⟨v, x, X, rfl, hv, sm, q⟩ := h
    have nd := scIsLevel.nd
    refine ⟨_, (pss_one (ps_ret (pe_and (pe_callB call_isi (by rfl) T.isinstance (by decide +kernel) (pa_cons (pv 0) (pa_cons (pe_bltn (v := .ty "int") (by rfl) T.int (by decide +kernel) rfl) pa_nil))) (pe_one (pe_not (pe_callB call_isi (by rfl) T.isinstance (by decide +kernel) (pa_cons (pv 0) (pa_cons (pe_bltn (v := .ty "bool") (by rfl) T.bool (by decide +kernel) rfl) pa_nil)))))))), ?_⟩
    refine ⟨v, rfl, v, .ty "int", _, _, _, rfl, .ty "int", hv.ty, is_intD x, _, rfl, ?_⟩
    have rest : ∀ b : Bool, b = levelD x → Q (.bl b) H := fun b e => e ▸ q H (Same.refl H)
    cases hb : isintB x with
    | true =>
      refine iteT ⟨v, rfl, v, .ty "bool", _, _, _, rfl, .ty "bool", hv.ty, is_boolD x, _, rfl, rest _ ?_⟩
      cases x <;> first | rfl | cases hb
    | false =>
      refine iteF (rest false ?_)
      cases x <;> first | rfl | cases hb
/-! ### beds -/
structure Bed where
  rock : Str
  th : Int
  mark : Option Str
def oV : Option Str → V
  | none => .non
  | some s => .str s
def oD : Option Str → PyData
  | none => .none
  | some s => .str s
def bedV (b : Bed) : List V := [.str b.rock, .int b.th, oV b.mark]
def bedD (b : Bed) : PyData := .tuple [.str b.rock, .int b.th, oD b.mark]
def okO (o : Option Str) : Prop := ∀ z, o = some z → wordB z = true
structure GoodB (b : Bed) : Prop where
  rock : wordB b.rock = true
  th : 1 ≤ b.th
  mark : okO b.mark
/-- no two neighbours of one rock without a mark between them -/
def Apart : List Bed → Prop
  | x :: y :: r => ¬ (x.rock = y.rock ∧ x.mark = none) ∧ Apart (y :: r)
  | _ => True
structure GoodBs (bs : List Bed) : Prop where
  all : ∀ b ∈ bs, GoodB b
  apart : Apart bs
theorem dv_o {X : Addr → Prop} {H : Hp} (o : Option Str) : DV X H (oV o) (oD o) := by
  cases o with
  | none => exact .non
  | some s => exact .str s
theorem o_inv {X : Addr → Prop} {H : Hp} {v : V} {o : Option Str} (h : DV X H v (oD o)) : v = oV o := by
  cases o with
  | none => cases h; rfl
  | some s => cases h; rfl
theorem dv_bed {X : Addr → Prop} {H : Hp} {a : Addr} {b : Bed} (n : ¬ X a) (h : H a = some (.tup (bedV b))) : DV X H (.ref a) (bedD b) :=
  .tup n h (.cons (.str _) (.cons (.int _) (.cons (dv_o _) .nil)))
theorem bed_inv {X : Addr → Prop} {H : Hp} {v : V} {b : Bed} (h : DV X H v (bedD b)) : ∃ a, v = .ref a ∧ ¬ X a ∧ H a = some (.tup (bedV b)) := by
  cases h with
  | tup n e r =>
    cases r with
    | cons h1 r =>
      cases r with
      | cons h2 r =>
        cases r with
        | cons h3 r =>
          cases r
          cases h1
          cases h2
          have := o_inv h3
          subst this
          exact ⟨_, rfl, n, e⟩
theorem DVs.get {X : Addr → Prop} {H : Hp} : ∀ {xs : List V} {ds : List PyData} {i : Nat} {v : V}, DVs X H xs ds → xs[i]? = some v → ∃ x, ds[i]? = some x ∧ DV X H v x
  | _, _, _, _, .nil, e => by simp at e
  | _, _, 0, _, .cons h r, e => by cases e; exact ⟨_, rfl, h⟩
  | _, _, i + 1, _, .cons h r, e => by
    obtain ⟨x, h1, h2⟩ := DVs.get r (by simpa using e)
    exact ⟨x, by simpa using h1, h2⟩
theorem beds_get {X : Addr → Prop} {H : Hp} {xs : List V} {bs : List Bed} {i : Nat} {v : V} (S : DVs X H xs (bs.map bedD)) (e : xs[i]? = some v) : ∃ b a, bs[i]? = some b ∧ v = .ref a ∧ ¬ X a ∧ H a = some (.tup (bedV b)) := by
  obtain ⟨x, h1, h2⟩ := S.get e
  rw [List.getElem?_map] at h1
  cases hb : bs[i]? with
  | none => rw [hb] at h1; cases h1
  | some b =>
    rw [hb] at h1
    cases h1
    obtain ⟨a, h3, h4, h5⟩ := bed_inv h2
    exact ⟨b, a, rfl, h3, h4, h5⟩
theorem beds_len {X : Addr → Prop} {H : Hp} {xs : List V} {bs : List Bed} (S : DVs X H xs (bs.map bedD)) : xs.length = bs.length := by rw [S.length, List.length_map]
theorem apart_at : ∀ {bs : List Bed} {i : Nat} {x y : Bed}, Apart bs → bs[i]? = some x → bs[i + 1]? = some y → ¬ (x.rock = y.rock ∧ x.mark = none)
  | [], _, _, _, _, h, _ => by simp at h
  | [_], 0, _, _, _, _, h => by simp at h
  | [_], i + 1, _, _, _, h, _ => by simp at h
  | a :: b :: r, 0, x, y, p, h1, h2 => by
    cases h1
    cases h2
    exact p.1
  | a :: b :: r, i + 1, x, y, p, h1, h2 => apart_at (bs := b :: r) p.2 h1 h2
theorem word_sm {z : Str} (h : wordB z = true) : Sm (.str z) := by
  obtain ⟨h1, h2⟩ := Bool.and_eq_true_iff.mp h
  obtain ⟨h3, h4⟩ := Bool.and_eq_true_iff.mp h1
  refine ⟨Nat.le_trans (of_decide_eq_true h4) (by decide), fun c hc => ?_⟩
  have := List.all_eq_true.mp h2 c hc
  obtain ⟨_, h6⟩ := Bool.and_eq_true_iff.mp this
  exact Nat.lt_of_le_of_lt (of_decide_eq_true h6) (by decide)
/-! ### the checks, where all is right -/
def spNeedName : Sp := fun vs H Q _ => ∃ z : Str, vs = [.str z] ∧ wordB z = true ∧ ∀ H', Same H H' → Q .non H'
def spNeedLevel : Sp := fun vs H Q _ => ∃ i : Int, vs = [.int i] ∧ ∀ H', Same H H' → Q .non H'
def spNeedO : Sp := fun vs H Q _ => ∃ o : Option Str, vs = [oV o] ∧ okO o ∧ ∀ H', Same H H' → Q .non H'
theorem scNeedName : FnScope ["value"] ["value"] (defScope sNeedName) := ⟨rfl, rfl, rfl, by decide +kernel, rfl, by decide +kernel, by decide +kernel⟩
theorem ok_need_name {f fN : Addr} {fd fdN : FuncData} {tN : Tok} (F : Fun K "need_name" "need_name" sNeedName f fd) (T : Txt mg) (DN : DefAt K mg "is_name" sIsName ["value"] fN fdN) (mgLONGEST_NAME : mg "LONGEST_NAME" = some (.int 8 tN)) : FnOk P w K mg base CX0 2 f fd ["value"] spNeedName := by
  have GN : FnOk P w K mg base CX0 1 fN fdN ["value"] (spTest nameD) := ok_is_name DN.F T mgLONGEST_NAME
  refine F.ok scNeedName (fun vs H Q E h => ?_) (fun cdv A outer s H vs Q E hr h => ?_)
  · obtain ⟨z, rfl, _⟩ := h
    rfl
  · obtain ⟨z, rfl, hz, q⟩ := h
    have nd := scNeedName.nd
    refine ⟨_, (pss_one (ps_if (pt_not (pt_val (pe_call GN (hr.mono (by decide)) (by rfl) DN.M DN.F.kp DN.B .nil pass0 (pa_cons (pv 0) pa_nil))))
      (pss_one ps_never)
      pss_nil)), ?_⟩
    refine ⟨_, rfl, _, _, fun _ => False, rfl, .str z, word_sm hz, fun H1 s1 => ⟨_, rfl, ?_⟩⟩
    rw [show nameD (.str z) = true from hz]
    exact iteF (q H1 s1)
theorem scNeedLevel : FnScope ["value"] ["value"] (defScope sNeedLevel) := ⟨rfl, rfl, rfl, by decide +kernel, rfl, by decide +kernel, by decide +kernel⟩
theorem ok_need_level {f fL : Addr} {fd fdL : FuncData} (F : Fun K "need_level" "need_level" sNeedLevel f fd) (T : Txt mg) (DL : DefAt K mg "is_level" sIsLevel ["value"] fL fdL) : FnOk P w K mg base CX0 2 f fd ["value"] spNeedLevel := by
  have GL : FnOk P w K mg base CX0 1 fL fdL ["value"] (spTest levelD) := ok_is_level DL.F T
  refine F.ok scNeedLevel (fun vs H Q E h => ?_) (fun cdv A outer s H vs Q E hr h => ?_)
  · obtain ⟨z, rfl, _⟩ := h
    rfl
  · obtain ⟨z, rfl, q⟩ := h
    have nd := scNeedLevel.nd
    refine ⟨_, (pss_one (ps_if (pt_not (pt_val (pe_call GL (hr.mono (by decide)) (by rfl) DL.M DL.F.kp DL.B .nil pass0 (pa_cons (pv 0) pa_nil))))
      (pss_one ps_never)
      pss_nil)), ?_⟩
    refine ⟨_, rfl, _, _, fun _ => False, rfl, .int z, trivial, fun H1 s1 => ⟨_, rfl, ?_⟩⟩
    exact iteF (q H1 s1)
theorem scNeedO : FnScope ["value"] ["value"] (defScope sNeedNameOrNone) := ⟨rfl, rfl, rfl, by decide +kernel, rfl, by decide +kernel, by decide +kernel⟩
theorem ok_need_o {f fN fNN : Addr} {fd fdN fdNN : FuncData} {tN : Tok} (F : Fun K "need_name_or_none" "need_name_or_none" sNeedNameOrNone f fd) (T : Txt mg) (DN : DefAt K mg "is_name" sIsName ["value"] fN fdN) (DNN : DefAt K mg "need_name" sNeedName ["value"] fNN fdNN) (mgLONGEST_NAME : mg "LONGEST_NAME" = some (.int 8 tN)) : FnOk P w K mg base CX0 3 f fd ["value"] spNeedO := by
  have GNN : FnOk P w K mg base CX0 2 fNN fdNN ["value"] spNeedName := ok_need_name DNN.F T DN mgLONGEST_NAME
  refine F.ok scNeedO (fun vs H Q E h => ?_) (fun cdv A outer s H vs Q E hr h => ?_)
  · obtain ⟨z, rfl, _⟩ := h
    rfl
  · obtain ⟨o, rfl, ho, q⟩ := h
    have nd := scNeedO.nd
    refine ⟨_, (pss_one (ps_if (pt_cmpR op_notN (pv 0) pe_non (nomark _))
      (pss_one (ps_expr (pe_call GNN (hr.mono (by decide)) (by rfl) DNN.M DNN.F.kp DNN.B .nil pass0 (pa_cons (pv 0) pa_nil))))
      pss_nil)), ?_⟩
    cases o with
    | none => exact ⟨_, rfl, rfl, _, rfl, iteF (q H (Same.refl H))⟩
    | some z => exact ⟨_, rfl, rfl, _, rfl, iteT ⟨_, rfl, z, rfl, ho z rfl, fun H1 s1 => q H1 s1⟩⟩
end
end Rk

set_option Elab.async false
set_option linter.all false
set_option maxRecDepth 100000
namespace Rk
open PySem L2
section
variable {P : Program} {w : World} {K : PySem.W.Frag} {mg : Str → Option Value} {base : Heap}
/-! ### feed, word -/
theorem Feed.same {H H' : Hp} {d c : Addr} {ns : List Int} {n : Nat} (F : Feed H d c ns n) (S : Same H H') : Feed H' d c ns n := by
  obtain ⟨⟨l, l0, e⟩, hc, hl⟩ := F
  exact ⟨⟨l, l0, S _ _ e⟩, S _ _ hc, hl⟩
def spFeed (K : PySem.W.Frag) : Sp := fun vs H Q _ => ∃ (a : Addr) (ns : List Int), vs = [.ref a] ∧ SqL K H a (ns.map V.int) ∧ ns.length ≤ 63 ∧
  ∀ (d c : Addr) (H' : Hp), Feed H' d c ns 0 → Same H H' → H d = none → Q (.ref d) H'
theorem merge_fk (c : Addr) (n l : Int) : mergeK [] (fk c n l) = fk c n l := by
  have e1 : ¬ kA = kC := fun h => nCA h.symm
  unfold fk mergeK putK
  simp only [List.foldl_cons, List.foldl_nil, List.any_nil, List.any_cons, Bool.false_eq_true, if_false, List.nil_append, nCA, nCL, nAL, decide_false, Bool.or_false, List.cons_append, Bool.or_self]
theorem scFeed : FnScope ["_law_script"] ["_law_script"] (defScope sFeed) := ⟨rfl, rfl, rfl, by decide +kernel, rfl, by decide +kernel, by decide +kernel⟩
theorem ok_feed {f : Addr} {fd : FuncData} (F : Fun K "_law_feed" "_law_feed" sFeed f fd) (T : Txt mg) : FnOk P w K mg base CX0 1 f fd ["_law_script"] (spFeed K) := by
  refine F.ok scFeed (fun vs H Q E h => ?_) (fun cdv A outer s H vs Q E hr h => ?_)
  · obtain ⟨a, ns, rfl, _⟩ := h
    rfl
  · obtain ⟨a, ns, rfl, hS, hl, q⟩ := h
    have hu := hu_of hr
    have nd := scFeed.nd
    refine ⟨_, (pss_one (ps_ret (pe_disp (pps_cons pe_str (pe_callTy call_list_of (by rfl) T.list (by decide +kernel) (pa_cons (pe_slice sl_list (pv 0) po_none (po_some pe_int)) pa_nil)) (pps_cons pe_str pe_int (pps_cons pe_str pe_int pps_nil))) (by rfl) (by rfl) (fun z => by cases z) (by decide)))), ?_⟩
    intro p np
    have s0 : Same H (upd H p (.dK [])) := new_same np
    refine ⟨.ref a, rfl, 63, rfl, a, _, rfl, s0.seq hS, fun c0 nc0 => ?_⟩
    have ec : cutV (ns.map V.int) none (some 63) = ns.map V.int := by
      unfold cutV
      rw [HT.sIx_none, show HT.sIx (ns.map V.int).length (ns.map V.int).length (some 63) = min 63 (ns.map V.int).length from HT.sIx_nat _ _ 63, List.drop_zero, List.length_map, Nat.min_eq_right hl, Nat.sub_zero]
      exact List.take_of_length_le (by rw [List.length_map]; exact Nat.le_refl _)
    rw [ec]
    refine ⟨c0, ns.map V.int, rfl, .inl (.inl (.inl upd_same)), fun c nc => ?_⟩
    have s1 := new_same (o := .lst (ns.map V.int)) nc0
    have s2 := new_same (o := .lst (ns.map V.int)) nc
    have hp2 := s2 _ _ (s1 _ _ (upd_same (H := H) (a := p) (o := .dK [])))
    refine ⟨hp2, fk c 0 0, rfl, (by show 3 ≤ 15; decide), ?_⟩
    rw [merge_fk]
    have ncp : c ≠ p := fun e => by rw [e] at nc; rw [s1 _ _ upd_same] at nc; cases nc
    refine q p c _ ⟨⟨0, Int.le_refl _, upd_same⟩, by rw [upd_ne ncp, upd_same], hl⟩ (fill_same np fun b x nb e => s2 _ _ (s1 _ _ (by rw [upd_ne nb]; exact e))) np
end
end Rk

set_option Elab.async false
set_option linter.all false
set_option maxRecDepth 100000
set_option maxHeartbeats 1000000
/-! DL: a layer of data over the hand layer: what a def does is told over trees, not over the heap. -/
namespace DL
open PySem L2
/-! ### data -/
inductive D
  | non
  | bl (b : Bool)
  | int (i : Int)
  | str (s : Str)
  | ptr (a : Addr)
  | ty (s : String)
  | lst (l : List D)
  | tup (l : List D)
  | dic (l : List (Key × D))
  | obj (C : Addr) (l : List (Str × D))
  | exc (a d C : Addr) (l : List (Str × D))
  | exv (C : Addr) (l : List (Str × D))
  | exn (C : Addr)
inductive OwnS
  | lst (ds : List D)
  | dic (l : List (Key × D))
  | ins (C : Addr) (l : List (Str × D))
  | self (C dx : Addr) (l : List (Str × D))
inductive Sl
  | any
  | val (d : D)
  | own (w : OwnS)
/-- an object of another kind (a code object): never changed -/
def Ext (o : HO) : Prop := ∃ f, o = .ext f
/-- what a def may change beside its own new lists -/
structure Md where
  d : Addr → Prop
  g : Addr → Prop
  St : Nat → Hp → Prop
  W : WX
  er : Addr → List (Str × D) → List Sl → Nat → Prop
  dg : ∀ a, d a → g a
  old : ∀ n H a, St n H → g a → H a ≠ none
  keep : ∀ n H H', St n H → (∀ a o, g a ∨ Ext o → H a = some o → H' a = some o) → St n H'
def noMd : Md := ⟨fun _ => False, fun _ => False, fun _ _ => True, fun _ _ _ _ => True, fun _ _ _ _ => False, fun _ h => h, fun _ _ _ _ h => h.elim, fun _ _ _ _ _ => trivial⟩
mutual
/-- v is the datum x; none of its objects is in O -/
inductive R (O : Addr → Prop) (H : Hp) : V → D → Prop
  | non : R O H .non .non
  | bl (b : Bool) : R O H (.bl b) (.bl b)
  | int (i : Int) : R O H (.int i) (.int i)
  | str (x : Str) : R O H (.str x) (.str x)
  | ptr (a : Addr) : R O H (.ref a) (.ptr a)
  | ty (s : String) : R O H (.ty s) (.ty s)
  | lst {a : Addr} {xs : List V} {ds : List D} : ¬ O a → H a = some (.lst xs) → Rs O H xs ds → R O H (.ref a) (.lst ds)
  | tup {a : Addr} {xs : List V} {ds : List D} : ¬ O a → H a = some (.tup xs) → Rs O H xs ds → R O H (.ref a) (.tup ds)
  | dic {a : Addr} {kvs : List (Key × V)} {ds : List (Key × D)} : ¬ O a → H a = some (.dK kvs) → Rk O H kvs ds → R O H (.ref a) (.dic ds)
  | obj {a C dx : Addr} {fs : List (Str × V)} {ds : List (Str × D)} : ¬ O a → H a = some (.ins C dx fs) → Rf O H fs ds → R O H (.ref a) (.obj C ds)
  | exc {a d C : Addr} {fs : List (Str × V)} {ds : List (Str × D)} : ¬ O d → H d = some (.xd fs) → Rf O H fs ds → R O H (.ref a) (.exc a d C ds)
  | exv {a d C : Addr} {fs : List (Str × V)} {ds : List (Str × D)} : ¬ O a → H a = some (exo a C (some d)) → ¬ O d → H d = some (exd d fs) → Rf O H fs ds → R O H (.ref a) (.exv C ds)
  | exn {a C : Addr} : ¬ O a → H a = some (exo a C none) → R O H (.ref a) (.exn C)
inductive Rs (O : Addr → Prop) (H : Hp) : List V → List D → Prop
  | nil : Rs O H [] []
  | cons {v : V} {r : List V} {x : D} {ds : List D} : R O H v x → Rs O H r ds → Rs O H (v :: r) (x :: ds)
inductive Rk (O : Addr → Prop) (H : Hp) : List (Key × V) → List (Key × D) → Prop
  | nil : Rk O H [] []
  | cons {k : Key} {v : V} {r : List (Key × V)} {x : D} {ds : List (Key × D)} : R O H v x → Rk O H r ds → Rk O H ((k, v) :: r) ((k, x) :: ds)
inductive Rf (O : Addr → Prop) (H : Hp) : List (Str × V) → List (Str × D) → Prop
  | nil : Rf O H [] []
  | cons {k : Str} {v : V} {r : List (Str × V)} {x : D} {ds : List (Str × D)} : R O H v x → Rf O H r ds → Rf O H ((k, v) :: r) ((k, x) :: ds)
end
section keep
variable {O O' : Addr → Prop} {H H' : Hp}
mutual
theorem R.keep (K : ∀ b o, ¬ O b → H b = some o → H' b = some o ∧ ¬ O' b) : ∀ {v : V} {x : D}, R O H v x → R O' H' v x
  | _, _, .non => .non
  | _, _, .bl b => .bl b
  | _, _, .int i => .int i
  | _, _, .str x => .str x
  | _, _, .ptr a => .ptr a
  | _, _, .ty s => .ty s
  | _, _, .lst n h r => .lst (K _ _ n h).2 (K _ _ n h).1 (Rs.keep K r)
  | _, _, .tup n h r => .tup (K _ _ n h).2 (K _ _ n h).1 (Rs.keep K r)
  | _, _, .dic n h r => .dic (K _ _ n h).2 (K _ _ n h).1 (Rk.keep K r)
  | _, _, .obj n h r => .obj (K _ _ n h).2 (K _ _ n h).1 (Rf.keep K r)
  | _, _, .exc n h r => .exc (K _ _ n h).2 (K _ _ n h).1 (Rf.keep K r)
  | _, _, .exv n h n2 h2 r => .exv (K _ _ n h).2 (K _ _ n h).1 (K _ _ n2 h2).2 (K _ _ n2 h2).1 (Rf.keep K r)
  | _, _, .exn n h => .exn (K _ _ n h).2 (K _ _ n h).1
theorem Rs.keep (K : ∀ b o, ¬ O b → H b = some o → H' b = some o ∧ ¬ O' b) : ∀ {v : List V} {x : List D}, Rs O H v x → Rs O' H' v x
  | _, _, .nil => .nil
  | _, _, .cons h r => .cons (R.keep K h) (Rs.keep K r)
theorem Rk.keep (K : ∀ b o, ¬ O b → H b = some o → H' b = some o ∧ ¬ O' b) : ∀ {v : List (Key × V)} {x : List (Key × D)}, Rk O H v x → Rk O' H' v x
  | _, _, .nil => .nil
  | _, _, .cons h r => .cons (R.keep K h) (Rk.keep K r)
theorem Rf.keep (K : ∀ b o, ¬ O b → H b = some o → H' b = some o ∧ ¬ O' b) : ∀ {v : List (Str × V)} {x : List (Str × D)}, Rf O H v x → Rf O' H' v x
  | _, _, .nil => .nil
  | _, _, .cons h r => .cons (R.keep K h) (Rf.keep K r)
end
end keep
/-- outside O all is kept -/
def KX (O : Addr → Prop) (H H' : Hp) : Prop := ∀ b o, ¬ O b → H b = some o → H' b = some o
theorem KX.refl {O : Addr → Prop} {H : Hp} : KX O H H := fun _ _ _ e => e
theorem KX.trans {O : Addr → Prop} {H H1 H2 : Hp} (a : KX O H H1) (b : KX O H1 H2) : KX O H H2 := fun x o n e => b x o n (a x o n e)
theorem KX.mono {O O' : Addr → Prop} {H H' : Hp} (a : KX O H H') (h : ∀ x, O x → O' x) : KX O' H H' := fun x o n e => a x o (fun z => n (h x z)) e
theorem KX.new {O : Addr → Prop} {H : Hp} {p : Addr} {o : HO} (h : H p = none) : KX O H (upd H p o) := fun b u _ e => by rw [upd_ne (ne_of_none e h)]; exact e
theorem R.kx {O : Addr → Prop} {H H' : Hp} {v : V} {x : D} (r : R O H v x) (k : KX O H H') : R O H' v x := r.keep fun b o n e => ⟨k b o n e, n⟩
theorem Rs.kx {O : Addr → Prop} {H H' : Hp} {v : List V} {x : List D} (r : Rs O H v x) (k : KX O H H') : Rs O H' v x := r.keep fun b o n e => ⟨k b o n e, n⟩
theorem Rs.length {O : Addr → Prop} {H : Hp} : ∀ {xs : List V} {ds : List D}, Rs O H xs ds → xs.length = ds.length
  | _, _, .nil => rfl
  | _, _, .cons _ r => by rw [List.length_cons, List.length_cons, r.length]
theorem Rs.append {O : Addr → Prop} {H : Hp} : ∀ {xs ys : List V} {ds es : List D}, Rs O H xs ds → Rs O H ys es → Rs O H (xs ++ ys) (ds ++ es)
  | _, _, _, _, .nil, s => s
  | _, _, _, _, .cons h r, s => .cons h (r.append s)
theorem Rs.get {O : Addr → Prop} {H : Hp} {v : V} : ∀ {xs : List V} {ds : List D} {i : Nat}, Rs O H xs ds → xs[i]? = some v → ∃ d, ds[i]? = some d ∧ R O H v d
  | _, _, i, .nil, e => by simp at e
  | _, _, 0, .cons h _, e => by
    simp only [List.getElem?_cons_zero, Option.some.injEq] at e
    exact ⟨_, rfl, e ▸ h⟩
  | _, _, i + 1, .cons _ r, e => by
    simp only [List.getElem?_cons_succ] at e ⊢
    exact r.get e
theorem Rs.getD {O : Addr → Prop} {H : Hp} {d : D} : ∀ {xs : List V} {ds : List D} {i : Nat}, Rs O H xs ds → ds[i]? = some d → ∃ v, xs[i]? = some v ∧ R O H v d
  | _, _, i, .nil, e => by simp at e
  | _, _, 0, .cons h _, e => by
    simp only [List.getElem?_cons_zero, Option.some.injEq] at e
    exact ⟨_, rfl, e ▸ h⟩
  | _, _, i + 1, .cons _ r, e => by
    simp only [List.getElem?_cons_succ] at e ⊢
    exact r.getD e
theorem Rs.take {O : Addr → Prop} {H : Hp} : ∀ {xs : List V} {cs : List D} (i : Nat), Rs O H xs cs → Rs O H (xs.take i) (cs.take i)
  | _, _, 0, _ => by rw [List.take_zero, List.take_zero]; exact .nil
  | _, _, _ + 1, .nil => by rw [List.take_nil, List.take_nil]; exact .nil
  | _, _, i + 1, .cons h r => by rw [List.take_succ_cons, List.take_succ_cons]; exact .cons h (r.take i)
theorem Rs.drop {O : Addr → Prop} {H : Hp} : ∀ {xs : List V} {cs : List D} (i : Nat), Rs O H xs cs → Rs O H (xs.drop i) (cs.drop i)
  | _, _, 0, s => by rw [List.drop_zero, List.drop_zero]; exact s
  | _, _, _ + 1, .nil => by rw [List.drop_nil, List.drop_nil]; exact .nil
  | _, _, i + 1, .cons _ r => by rw [List.drop_succ_cons, List.drop_succ_cons]; exact r.drop i
theorem Rf.look {O : Addr → Prop} {H : Hp} {f : Str} {d : D} : ∀ {fs : List (Str × V)} {ds : List (Str × D)}, Rf O H fs ds → ds.lookup f = some d → ∃ v, fs.lookup f = some v ∧ R O H v d
  | _, _, .nil, e => by cases e
  | _, _, .cons (k := k) h r, e => by
    rw [List.lookup_cons] at e ⊢
    cases q : f == k with
    | true => rw [q] at e; cases e; exact ⟨_, rfl, h⟩
    | false => rw [q] at e; exact r.look e
theorem Rf.none {O : Addr → Prop} {H : Hp} {f : Str} : ∀ {fs : List (Str × V)} {ds : List (Str × D)}, Rf O H fs ds → ds.lookup f = none → fs.lookup f = none
  | _, _, .nil, _ => rfl
  | _, _, .cons (k := k) h r, e => by
    rw [List.lookup_cons] at e ⊢
    cases q : f == k with
    | true => rw [q] at e; cases e
    | false => rw [q] at e; exact r.none e
/-! ### slots -/
def OwnS.d : OwnS → D
  | .lst ds => .lst ds
  | .dic l => .dic l
  | .ins C l => .obj C l
  | .self C _ l => .obj C l
/-- an object of one's own at a -/
def OwnAt (O : Addr → Prop) (H : Hp) (a : Addr) : OwnS → Prop
  | .lst ds => ∃ xs, H a = some (.lst xs) ∧ Rs O H xs ds
  | .dic l => ∃ kvs, H a = some (.dK kvs) ∧ Rk O H kvs l
  | .ins C l => ∃ dx fs, H a = some (.ins C dx fs) ∧ Rf O H fs l
  | .self C dx l => ∃ fs, H a = some (.ins C dx fs) ∧ H dx = some (.own a) ∧ ¬ O dx ∧ Rf O H fs l
theorem OwnAt.keep {O O' : Addr → Prop} {H H' : Hp} {a : Addr} (K : ∀ b o, ¬ O b → H b = some o → H' b = some o ∧ ¬ O' b) (ha : ∀ o, H a = some o → H' a = some o) : ∀ {w : OwnS}, OwnAt O H a w → OwnAt O' H' a w
  | .lst _, ⟨xs, h, r⟩ => ⟨xs, ha _ h, r.keep K⟩
  | .dic _, ⟨xs, h, r⟩ => ⟨xs, ha _ h, r.keep K⟩
  | .ins _ _, ⟨dx, xs, h, r⟩ => ⟨dx, xs, ha _ h, r.keep K⟩
  | .self _ _ _, ⟨xs, h, hd, n, r⟩ => ⟨xs, ha _ h, (K _ _ n hd).1, (K _ _ n hd).2, r.keep K⟩
theorem OwnAt.at {O : Addr → Prop} {H : Hp} {a : Addr} : ∀ {w : OwnS}, OwnAt O H a w → ∃ o, H a = some o
  | .lst _, ⟨_, h, _⟩ => ⟨_, h⟩
  | .dic _, ⟨_, h, _⟩ => ⟨_, h⟩
  | .ins _ _, ⟨_, _, h, _⟩ => ⟨_, h⟩
  | .self _ _ _, ⟨_, h, _, _, _⟩ => ⟨_, h⟩
theorem OwnAt.r {O : Addr → Prop} {H : Hp} {a : Addr} (n : ¬ O a) : ∀ {w : OwnS}, OwnAt O H a w → R O H (.ref a) w.d
  | .lst _, ⟨_, h, r⟩ => .lst n h r
  | .dic _, ⟨_, h, r⟩ => .dic n h r
  | .ins _ _, ⟨_, _, h, r⟩ => .obj n h r
  | .self _ _ _, ⟨_, h, _, _, r⟩ => .obj n h r
abbrev Sls := List Sl
/-- where one stands, while an expression is evaluated -/
structure EE0 (m : Md) (O : Addr → Prop) (σ : L2.St) (H : Hp) (env : Sls) : Prop where
  len : σ.length = env.length
  gd : ∀ a, m.g a → O a
  old : ∀ a, O a → H a ≠ none
  val : ∀ (i : Nat) (d : D), env[i]? = some (.val d) → ∃ v, σ[i]? = some (some v) ∧ R O H v d
  own : ∀ (i : Nat) (w : OwnS), env[i]? = some (.own w) → ∃ a, σ[i]? = some (some (.ref a)) ∧ OwnAt O H a w ∧ O a ∧ ¬ m.g a
/-- .. and what is wished for, if an error is raised -/
structure EE (m : Md) (O : Addr → Prop) (σ : L2.St) (H : Hp) (env : Sls) : Prop extends EE0 m O σ H env where
  wx : ∀ C fs n d H' vfs, KX m.d H H' → m.St n H' → H' d = some (.xd vfs) → ¬ O d → Rf O H' vfs fs → m.er C fs env n → m.W (.ref C) (some d) σ H'
/-- no error is raised -/
abbrev Md.nox (m : Md) : Md := { m with er := fun _ _ _ _ => False }
theorem EE0.nox {m : Md} {O : Addr → Prop} {σ : L2.St} {H : Hp} {env : Sls} (e : EE0 m O σ H env) : EE m.nox O σ H env := ⟨⟨e.len, e.gd, e.old, e.val, e.own⟩, fun _ _ _ _ _ _ _ _ _ _ _ z => z.elim⟩
theorem md_of {m : Md} {O : Addr → Prop} {σ : L2.St} {H : Hp} {env : Sls} (e : EE0 m O σ H env) {a : Addr} (n : ¬ O a) : ¬ m.d a := fun z => n (e.gd a (m.dg a z))
/-- an expression's run: all but m.d kept -/
theorem EE0.kx {m : Md} {O : Addr → Prop} {σ : L2.St} {H H' : Hp} {env : Sls} (e : EE0 m O σ H env) (k : KX m.d H H') {n : Nat} (s : m.St n H') : EE0 m O σ H' env := by
  have k' : KX O H H' := k.mono fun x h => e.gd x (m.dg x h)
  refine ⟨e.len, e.gd, fun a ha => ?_, fun i d q => ?_, fun i ds q => ?_⟩
  · by_cases g : m.g a
    · exact m.old n H' a s g
    · cases q : H a with
      | none => exact absurd q (e.old a ha)
      | some o => rw [k a o (fun z => g (m.dg a z)) q]; exact fun z => nomatch z
  · obtain ⟨v, h1, h2⟩ := e.val i d q
    exact ⟨v, h1, h2.kx k'⟩
  · obtain ⟨a, h1, h2, h3, h4⟩ := e.own i ds q
    exact ⟨a, h1, h2.keep (fun b o n e => ⟨k' b o n e, n⟩) (fun o z => k _ _ (fun z => h4 (m.dg a z)) z), h3, h4⟩
theorem EE.kx {m : Md} {O : Addr → Prop} {σ : L2.St} {H H' : Hp} {env : Sls} (e : EE m O σ H env) (k : KX m.d H H') {n : Nat} (s : m.St n H') : EE m O σ H' env := ⟨e.toEE0.kx k s, fun C fs n d H2 vfs k2 s2 h nd r z => e.wx C fs n d H2 vfs (k.trans k2) s2 h nd r z⟩
theorem EE0.new {m : Md} {O : Addr → Prop} {σ : L2.St} {H : Hp} {env : Sls} (e : EE0 m O σ H env) {p : Addr} (h : H p = none) : ¬ O p := fun z => e.old p z h
theorem st_new {m : Md} {n : Nat} {H : Hp} {p : Addr} {o : HO} (s : m.St n H) (h : H p = none) : m.St n (upd H p o) := m.keep n H _ s fun a u _ e => by rw [upd_ne (ne_of_none e h)]; exact e
/-! ### judgements over data -/
abbrev DK := D → Nat → Prop
abbrev TD := Sls → Nat → DK → Prop
abbrev TDs := Sls → Nat → (List D → Nat → Prop) → Prop
abbrev TDb := Sls → Nat → (Bool → Nat → Prop) → Prop
def Out (m : Md) (O : Addr → Prop) (H : Hp) (Q : VK) : DK := fun d n => ∀ v H', KX m.d H H' → m.St n H' → R O H' v d → Q v H'
def OutB (m : Md) (H : Hp) (Q : Bool → Hp → Prop) : Bool → Nat → Prop := fun b n => ∀ H', KX m.d H H' → m.St n H' → Q b H'
def Outs (m : Md) (O : Addr → Prop) (H : Hp) (Q : List V → Hp → Prop) : List D → Nat → Prop := fun ds n => ∀ vs H', KX m.d H H' → m.St n H' → Rs O H' vs ds → Q vs H'
structure EV (X : Cx) (m : Md) (e : Expr) (T : TD) : Prop where
  mono : ∀ env n K K', (∀ d n, K d n → K' d n) → T env n K → T env n K'
  ex : ∃ t, PE X e t ∧ ∀ O σ H env n Q, EE m O σ H env → m.St n H → T env n (Out m O H Q) → t σ H Q
structure AV (X : Cx) (m : Md) (es : List Expr) (T : TDs) : Prop where
  mono : ∀ env n K K', (∀ d n, K d n → K' d n) → T env n K → T env n K'
  ex : ∃ t, PA X es t ∧ ∀ O σ H env n Q, EE m O σ H env → m.St n H → T env n (Outs m O H Q) → t σ H Q
structure BV (X : Cx) (m : Md) (e : Expr) (T : TDb) : Prop where
  mono : ∀ env n K K', (∀ d n, K d n → K' d n) → T env n K → T env n K'
  ex : ∃ t, PT X e t ∧ ∀ O σ H env n Q, EE m O σ H env → m.St n H → T env n (OutB m H Q) → t σ H Q
section
variable {X : Cx} {m : Md}
/-! ### names, constants -/
def tName (i : Nat) : TD := fun env n K => ∃ d, env[i]? = some (.val d) ∧ K d n
theorem v_name {i : Nat} {x : Str} {pos : Pos} (hN : X.N[i]? = some x) (hv : Vis X.env.scope x) (hd : (x == ("__debug__" : Str)) = false := by decide) (hcd : (x == ("__classdict__" : Str)) = false := by decide) : EV X m (.Name x pos) (tName i) :=
  ⟨fun env n K K' h ⟨d, e, k⟩ => ⟨d, e, h _ _ k⟩, _, pe_var hN hv hd hcd, fun O σ H env n Q e s ⟨d, he, k⟩ =>
    let ⟨v, h1, h2⟩ := e.val i d he
    ⟨v, h1, k v H KX.refl s h2⟩⟩
def tConst (d : D) : TD := fun _ n K => K d n
theorem v_const {e : Expr} {v : V} {d : D} (h : PE X e (tC v)) (r : ∀ O H, R O H v d) : EV X m e (tConst d) :=
  ⟨fun _ n _ _ h k => h _ _ k, _, h, fun O σ H env n Q e s k => k v H KX.refl s (r O H)⟩
theorem v_int {i j pos} : EV X m (.Constant (.int i) j pos) (tConst (.int i)) := v_const pe_int fun _ _ => .int i
theorem v_bl {b j pos} : EV X m (.Constant (.bool b) j pos) (tConst (.bl b)) := v_const pe_bl fun _ _ => .bl b
theorem v_non {j pos} : EV X m (.Constant .none j pos) (tConst .non) := v_const pe_non fun _ _ => .non
theorem v_str {x j pos} : EV X m (.Constant (.str x) j pos) (tConst (.str x)) := v_const pe_str fun _ _ => .str x
/-! ### two expressions, one after the other -/
/-- an operator that looks at values alone -/
structure OpD (r : R2) (rd : D → D → (D → Prop) → Prop) : Prop where
  mono : ∀ x y K K', (∀ d, K d → K' d) → rd x y K → rd x y K'
  run : ∀ (m : Md) (O : Addr → Prop) (H : Hp) (n : Nat) (v w : V) (x y : D) (Q : VK), (∀ a, m.g a → O a) → (∀ a, O a → H a ≠ none) → m.St n H → R O H v x → R O H w y → rd x y (fun d => Out m O H Q d n) → r v w H Q
def tBin (rd : D → D → (D → Prop) → Prop) (Ta Tb : TD) : TD := fun env n K => Ta env n fun x n1 => Tb env n1 fun y n2 => rd x y fun d => K d n2
theorem out_trans {m : Md} {O : Addr → Prop} {H H1 : Hp} {Q : VK} {d : D} {n : Nat} (k : KX m.d H H1) (h : Out m O H Q d n) : Out m O H1 Q d n := fun v H' k1 s r => h v H' (k.trans k1) s r
theorem out_transB {m : Md} {H H1 : Hp} {Q : Bool → Hp → Prop} {b : Bool} {n : Nat} (k : KX m.d H H1) (h : OutB m H Q b n) : OutB m H1 Q b n := fun H' k1 s => h H' (k.trans k1) s
theorem two {ea eb : Expr} {Ta Tb : TD} (a : EV X m ea Ta) (b : EV X m eb Tb) : ∃ ta tb, PE X ea ta ∧ PE X eb tb ∧ ∀ O σ H env n (K : D → D → Nat → Prop) (Z : V → V → Hp → Prop), EE m O σ H env → m.St n H → (Ta env n fun x n1 => Tb env n1 fun y n2 => K x y n2) →
    (∀ v w x y H2 n2, KX m.d H H2 → EE m O σ H2 env → m.St n2 H2 → R O H2 v x → R O H2 w y → K x y n2 → Z v w H2) → ta σ H fun v H1 => tb σ H1 fun w H2 => Z v w H2 := by
  obtain ⟨ta, pa, ha⟩ := a.ex
  obtain ⟨tb, pb, hb⟩ := b.ex
  refine ⟨ta, tb, pa, pb, fun O σ H env n K Z e s h z => ?_⟩
  refine ha O σ H env n _ e s (a.mono _ _ _ _ (fun x n1 q => ?_) h)
  intro v H1 k1 s1 r1
  have e1 := e.kx k1 s1
  refine hb O σ H1 env n1 _ e1 s1 (b.mono _ _ _ _ (fun y n2 q2 => ?_) q)
  intro w H2 k2 s2 r2
  exact z v w x y H2 n2 (k1.trans k2) (e1.kx k2 s2) s2 (r1.kx (k2.mono fun x h => e.gd x (m.dg x h))) r2 q2
theorem v_op {op : Operator} {r : R2} {rd : D → D → (D → Prop) → Prop} {ea eb : Expr} {Ta Tb : TD} {pos : Pos} (h : OpR X (binaryOp op) r) (hd : OpD r rd) (a : EV X m ea Ta) (b : EV X m eb Tb) : EV X m (.BinOp ea op eb pos) (tBin rd Ta Tb) := by
  obtain ⟨ta, tb, pa, pb, hz⟩ := two a b
  refine ⟨fun env n K K' hk q => a.mono _ _ _ _ (fun x n1 q => b.mono _ _ _ _ (fun y n2 q => hd.mono _ _ _ _ (fun d k => hk _ _ k) q) q) q, _, pe_op h pa pb, fun O σ H env n Q e s q => ?_⟩
  exact hz O σ H env n _ _ e s q fun v w x y H2 n2 k2 e2 s2 r1 r2 q => hd.run m O H2 n2 v w x y Q e2.gd e2.old s2 r1 r2 (hd.mono _ _ _ _ (fun d o => out_trans k2 o) q)
theorem v_cmp {op : CmpOp} {r : R2} {rd : D → D → (D → Prop) → Prop} {ea eb : Expr} {Ta Tb : TD} {pos : Pos} (h : OpR X (compareOp op) r) (hd : OpD r rd) (a : EV X m ea Ta) (b : EV X m eb Tb) (h1 : behindInMarks op eb = false) : EV X m (.Compare ea [op] [eb] pos) (tBin rd Ta Tb) := by
  obtain ⟨ta, tb, pa, pb, hz⟩ := two a b
  refine ⟨fun env n K K' hk q => a.mono _ _ _ _ (fun x n1 q => b.mono _ _ _ _ (fun y n2 q => hd.mono _ _ _ _ (fun d k => hk _ _ k) q) q) q, _, pe_cmpR h pa pb h1, fun O σ H env n Q e s q => ?_⟩
  exact hz O σ H env n _ _ e s q fun v w x y H2 n2 k2 e2 s2 r1 r2 q => hd.run m O H2 n2 v w x y Q e2.gd e2.old s2 r1 r2 (hd.mono _ _ _ _ (fun d o => out_trans k2 o) q)
end
end DL

set_option Elab.async false
set_option linter.all false
set_option maxRecDepth 100000
set_option maxHeartbeats 1000000
namespace DL
open PySem L2
/-! ### what is allocated -/
theorem out_new {m : Md} {O : Addr → Prop} {H : Hp} {Q : VK} {d : D} {n : Nat} {p : Addr} {o : HO} {v : V} (q : Out m O H Q d n) (s : m.St n H) (h : H p = none) (r : R O (upd H p o) v d) : Q v (upd H p o) := q v _ (KX.new h) (st_new s h) r
theorem new_free {O : Addr → Prop} {H : Hp} (old : ∀ a, O a → H a ≠ none) {p : Addr} (h : H p = none) : ¬ O p := fun z => old p z h
theorem r_lst {O : Addr → Prop} {H : Hp} {p : Addr} {xs : List V} {ds : List D} (h : H p = none) (n : ¬ O p) (r : Rs O H xs ds) : R O (upd H p (.lst xs)) (.ref p) (.lst ds) := .lst n upd_same (r.kx (KX.new h))
theorem r_tup {O : Addr → Prop} {H : Hp} {p : Addr} {xs : List V} {ds : List D} (h : H p = none) (n : ¬ O p) (r : Rs O H xs ds) : R O (upd H p (.tup xs)) (.ref p) (.tup ds) := .tup n upd_same (r.kx (KX.new h))
/-! ### operators over data -/
abbrev RD := D → D → (D → Prop) → Prop
def dI (g : Int → Int → D) : RD := fun x y K => ∃ i j, x = .int i ∧ y = .int j ∧ K (g i j)
def dIc (C : Int → Int → Prop) (g : Int → Int → D) : RD := fun x y K => ∃ i j, x = .int i ∧ y = .int j ∧ C i j ∧ K (g i j)
theorem opd_I {g : Int → Int → V} {gd : Int → Int → D} (hg : ∀ i j O H, R O H (g i j) (gd i j)) : OpD (rI0 g) (dI gd) where
  mono := fun x y K K' h ⟨i, j, a, b, k⟩ => ⟨i, j, a, b, h _ k⟩
  run := fun m O H n v w x y Q gd' old s r1 r2 ⟨i, j, ex, ey, k⟩ => by
    subst ex; subst ey; cases r1; cases r2
    exact ⟨i, j, rfl, rfl, k _ H KX.refl s (hg i j O H)⟩
theorem opd_Ic {C : Int → Int → Prop} {g : Int → Int → V} {gd : Int → Int → D} (hg : ∀ i j O H, R O H (g i j) (gd i j)) : OpD (rI C g) (dIc C gd) where
  mono := fun x y K K' h ⟨i, j, a, b, c, k⟩ => ⟨i, j, a, b, c, h _ k⟩
  run := fun m O H n v w x y Q gd' old s r1 r2 ⟨i, j, ex, ey, c, k⟩ => by
    subst ex; subst ey; cases r1; cases r2
    exact ⟨i, j, rfl, rfl, c, k _ H KX.refl s (hg i j O H)⟩
abbrev dAdd : RD := dI fun i j => .int (i + j)
abbrev dSub : RD := dI fun i j => .int (i - j)
abbrev dMulW : RD := dIc CMulW fun i j => .int (i * j)
abbrev dMod : RD := dIc (fun _ j => j ≠ 0) fun i j => .int (i.fmod j)
abbrev dFdiv : RD := dIc CDivN fun i j => .int (i.fdiv j)
abbrev dLt : RD := dI fun i j => .bl (decide (i < j))
abbrev dLe : RD := dI fun i j => .bl (decide (i ≤ j))
abbrev dGt : RD := dI fun i j => .bl (decide (j < i))
abbrev dGe : RD := dI fun i j => .bl (decide (j ≤ i))
theorem o_add : OpD (rI0 fun i j => .int (i + j)) dAdd := opd_I fun _ _ _ _ => .int _
theorem o_sub : OpD (rI0 fun i j => .int (i - j)) dSub := opd_I fun _ _ _ _ => .int _
theorem o_mulW : OpD (rI CMulW fun i j => .int (i * j)) dMulW := opd_Ic fun _ _ _ _ => .int _
theorem o_modN : OpD (rI (fun _ j => j ≠ 0) fun i j => .int (i.fmod j)) dMod := opd_Ic fun _ _ _ _ => .int _
theorem o_fdivN : OpD (rI CDivN fun i j => .int (i.fdiv j)) dFdiv := opd_Ic fun _ _ _ _ => .int _
theorem o_lt : OpD (rI0 fun i j => .bl (decide (i < j))) dLt := opd_I fun _ _ _ _ => .bl _
theorem o_le : OpD (rI0 fun i j => .bl (decide (i ≤ j))) dLe := opd_I fun _ _ _ _ => .bl _
theorem o_gt : OpD (rI0 fun i j => .bl (decide (j < i))) dGt := opd_I fun _ _ _ _ => .bl _
theorem o_ge : OpD (rI0 fun i j => .bl (decide (j ≤ i))) dGe := opd_I fun _ _ _ _ => .bl _
/-! scalars -/
def eqS : D → D → Bool
  | .non, .non => true
  | .bl a, .bl b => decide (a = b)
  | .int a, .int b => decide (a = b)
  | .str a, .str b => decide (a = b)
  | _, _ => false
def scD : D → D → Bool
  | .non, .non => true | .non, .int _ => true | .int _, .non => true | .non, .bl _ => true | .bl _, .non => true | .non, .str _ => true | .str _, .non => true
  | .int _, .int _ => true | .bl _, .bl _ => true | .str _, .str _ => true
  | .int _, .str _ => true | .str _, .int _ => true | .bl _, .str _ => true | .str _, .bl _ => true
  | _, _ => false
def dEqS : RD := fun x y K => scD x y = true ∧ K (.bl (eqS x y))
def dNeS : RD := fun x y K => scD x y = true ∧ K (.bl (!eqS x y))
theorem sc_eq {O : Addr → Prop} {H : Hp} {v w : V} {x y : D} (r1 : R O H v x) (r2 : R O H w y) (h : scD x y = true) : scal v w = true ∧ decide (v = w) = eqS x y := by
  cases r1 <;> cases r2 <;> first | (exact ⟨rfl, by simp [eqS]⟩) | (cases h)
theorem o_eqS : OpD rEq dEqS where
  mono := fun x y K K' h ⟨a, k⟩ => ⟨a, h _ k⟩
  run := fun m O H n v w x y Q gd old s r1 r2 ⟨a, k⟩ => by
    obtain ⟨h1, h2⟩ := sc_eq r1 r2 a
    refine ⟨h1, ?_⟩
    rw [h2]
    exact k _ H KX.refl s (.bl _)
theorem o_neS : OpD rNe dNeS where
  mono := fun x y K K' h ⟨a, k⟩ => ⟨a, h _ k⟩
  run := fun m O H n v w x y Q gd old s r1 r2 ⟨a, k⟩ => by
    obtain ⟨h1, h2⟩ := sc_eq r1 r2 a
    refine ⟨h1, ?_⟩
    rw [h2]
    exact k _ H KX.refl s (.bl _)
def isNon : D → Bool
  | .non => true
  | _ => false
theorem non_of {O : Addr → Prop} {H : Hp} {v : V} {x : D} (r : R O H v x) : decide (v = .non) = isNon x := by
  cases r <;> simp [isNon]
def dIsN : RD := fun x y K => y = .non ∧ K (.bl (isNon x))
def dNotN : RD := fun x y K => y = .non ∧ K (.bl (!isNon x))
theorem o_isN : OpD (fun x y H Q => y = .non ∧ Q (.bl (decide (x = .non))) H) dIsN where
  mono := fun x y K K' h ⟨a, k⟩ => ⟨a, h _ k⟩
  run := fun m O H n v w x y Q gd old s r1 r2 ⟨a, k⟩ => by
    subst a; cases r2
    refine ⟨rfl, ?_⟩
    rw [non_of r1]
    exact k _ H KX.refl s (.bl _)
theorem o_notN : OpD (fun x y H Q => y = .non ∧ Q (.bl (!decide (x = .non))) H) dNotN where
  mono := fun x y K K' h ⟨a, k⟩ => ⟨a, h _ k⟩
  run := fun m O H n v w x y Q gd old s r1 r2 ⟨a, k⟩ => by
    subst a; cases r2
    refine ⟨rfl, ?_⟩
    rw [non_of r1]
    exact k _ H KX.refl s (.bl _)
def dCatS : RD := fun x y K => ∃ i j, x = .str i ∧ y = .str j ∧ i.length + j.length ≤ sizeLine ∧ K (.str (i ++ j))
theorem o_catS : OpD (fun x y H Q => ∃ i j, x = .str i ∧ y = .str j ∧ i.length + j.length ≤ sizeLine ∧ Q (.str (i ++ j)) H) dCatS where
  mono := fun x y K K' h ⟨i, j, a, b, c, k⟩ => ⟨i, j, a, b, c, h _ k⟩
  run := fun m O H n v w x y Q gd old s r1 r2 ⟨i, j, ex, ey, c, k⟩ => by
    subst ex; subst ey; cases r1; cases r2
    exact ⟨i, j, rfl, rfl, c, k _ H KX.refl s (.str _)⟩
/-! lists and tuples, put together -/
def dCatL : RD := fun x y K => ∃ l k, x = .lst l ∧ y = .lst k ∧ l.length + k.length ≤ sizeLine ∧ K (.lst (l ++ k))
theorem o_catL : OpD rCat dCatL where
  mono := fun x y K K' h ⟨i, j, a, b, c, k⟩ => ⟨i, j, a, b, c, h _ k⟩
  run := fun m O H n v w x y Q gd old s r1 r2 ⟨l, k, ex, ey, c, q⟩ => by
    subst ex; subst ey
    cases r1 with
    | lst n1 h1 s1 =>
      cases r2 with
      | lst n2 h2 s2 => exact ⟨_, _, _, _, rfl, rfl, h1, h2, by rw [s1.length, s2.length]; exact c, fun p hp => out_new q s hp (r_lst hp (new_free old hp) (s1.append s2))⟩
def dCatT : RD := fun x y K => ∃ l k, x = .tup l ∧ y = .tup k ∧ l.length + k.length ≤ sizeLine ∧ K (.tup (l ++ k))
theorem o_catT {KK : PySem.W.Frag} : OpD (rCatA KK) dCatT where
  mono := fun x y K K' h ⟨i, j, a, b, c, k⟩ => ⟨i, j, a, b, c, h _ k⟩
  run := fun m O H n v w x y Q gd old s r1 r2 ⟨l, k, ex, ey, c, q⟩ => by
    subst ex; subst ey
    cases id r1 with
    | tup n1 h1 s1 =>
      cases id r2 with
      | tup n2 h2 s2 =>
        refine ⟨_, _, _, _, rfl, rfl, .inl (.inl h1), .inl (.inl h2), by rw [s1.length, s2.length]; exact c, fun e => ?_, fun _ e => ?_, fun _ _ p hp => out_new q s hp (r_tup hp (new_free old hp) (s1.append s2))⟩
        · subst e
          cases s1
          exact q _ H KX.refl s r2
        · subst e
          cases s2
          rw [List.append_nil] at q
          exact q _ H KX.refl s r1
def dRep : RD := fun x y K => ∃ l k, x = .lst l ∧ y = .int k ∧ -(2 ^ 63) ≤ k ∧ k < 2 ^ 63 ∧ l.length * k.toNat ≤ sizeLine ∧ K (.lst (List.replicate k.toNat l).flatten)
theorem rs_rep {O : Addr → Prop} {H : Hp} {xs : List V} {ds : List D} (s : Rs O H xs ds) : ∀ k : Nat, Rs O H (List.replicate k xs).flatten (List.replicate k ds).flatten
  | 0 => .nil
  | k + 1 => by
    rw [List.replicate_succ, List.replicate_succ, List.flatten_cons, List.flatten_cons]
    exact s.append (rs_rep s k)
theorem o_rep : OpD rRep dRep where
  mono := fun x y K K' h ⟨i, j, a, b, c, d, e, k⟩ => ⟨i, j, a, b, c, d, e, h _ k⟩
  run := fun m O H n v w x y Q gd old s r1 r2 ⟨l, k, ex, ey, c1, c2, c3, q⟩ => by
    subst ex; subst ey; cases r2
    cases r1 with
    | lst n1 h1 s1 => exact ⟨_, _, _, rfl, rfl, h1, c1, c2, by rw [s1.length]; exact c3, fun p hp => out_new q s hp (r_lst hp (new_free old hp) (rs_rep s1 k.toNat))⟩
/-! an item -/
theorem rs_at {O : Addr → Prop} {H : Hp} {xs : List V} {ds : List D} {i : Int} {d : D} (s : Rs O H xs ds) (h : atI ds i = some d) : ∃ v, atI xs i = some v ∧ R O H v d := by
  unfold atI at h ⊢
  rw [s.length]
  cases e : ixN ds.length i with
  | none => rw [e] at h; cases h
  | some j => rw [e] at h; exact s.getD h
def dIxL : RD := fun x y K => ∃ l i d, x = .lst l ∧ y = .int i ∧ atI l i = some d ∧ K d
def dIxT : RD := fun x y K => ∃ l i d, x = .tup l ∧ y = .int i ∧ atI l i = some d ∧ K d
def dIxS : RD := fun x y K => ∃ z i c, x = .str z ∧ y = .int i ∧ z.length ≤ sizeLine ∧ atI z.cps.toList i = some c ∧ K (.str ⟨#[c]⟩)
theorem o_ixL {KK : PySem.W.Frag} : OpD (rIxL KK) dIxL where
  mono := fun x y K K' h ⟨i, j, d, a, b, c, k⟩ => ⟨i, j, d, a, b, c, h _ k⟩
  run := fun m O H n v w x y Q gd old s r1 r2 ⟨l, i, d, ex, ey, c, q⟩ => by
    subst ex; subst ey; cases r2
    cases r1 with
    | lst n1 h1 s1 =>
      obtain ⟨v, hv, rv⟩ := rs_at s1 c
      exact ⟨_, _, _, _, rfl, rfl, .inl (.inl h1), hv, q _ H KX.refl s rv⟩
theorem o_ixT {KK : PySem.W.Frag} : OpD (rIxT KK) dIxT where
  mono := fun x y K K' h ⟨i, j, d, a, b, c, k⟩ => ⟨i, j, d, a, b, c, h _ k⟩
  run := fun m O H n v w x y Q gd old s r1 r2 ⟨l, i, d, ex, ey, c, q⟩ => by
    subst ex; subst ey; cases r2
    cases r1 with
    | tup n1 h1 s1 =>
      obtain ⟨v, hv, rv⟩ := rs_at s1 c
      exact ⟨_, _, _, _, rfl, rfl, .inl (.inl h1), hv, q _ H KX.refl s rv⟩
theorem o_ixS : OpD rIxS dIxS where
  mono := fun x y K K' h ⟨i, j, d, a, b, c, e, k⟩ => ⟨i, j, d, a, b, c, e, h _ k⟩
  run := fun m O H n v w x y Q gd old s r1 r2 ⟨z, i, c, ex, ey, l, e, q⟩ => by
    subst ex; subst ey; cases r2; cases r1
    exact ⟨_, _, _, rfl, rfl, l, e, q _ H KX.refl s (.str _)⟩
/-! == of data at any depth -/
mutual
def py : D → PyData
  | .non => .none
  | .bl b => .bool b
  | .int i => .int i
  | .str s => .str s
  | .lst l => .list (pys l)
  | .tup l => .tuple (pys l)
  | _ => .none
def pys : List D → List PyData
  | [] => []
  | d :: r => py d :: pys r
end
mutual
def plain : D → Bool
  | .non => true
  | .bl b => true
  | .int i => true
  | .str s => true
  | .lst l => plains l
  | .tup l => plains l
  | _ => false
def plains : List D → Bool
  | [] => true
  | d :: r => plain d && plains r
end
section
variable {O : Addr → Prop} {H : Hp} {KK : PySem.W.Frag}
mutual
theorem R.dp : ∀ {v : V} {x : D}, R O H v x → plain x = true → Dp KK H v (py x)
  | _, _, .non, _ => by rw [py]; exact .non
  | _, _, .bl b, _ => by rw [py]; exact .bl b
  | _, _, .int i, _ => by rw [py]; exact .int i
  | _, _, .str x, _ => by rw [py]; exact .str x
  | _, _, .ptr a, h => by simp [plain] at h
  | _, _, .ty s, h => by simp [plain] at h
  | _, _, .lst n e r, h => by rw [py]; exact .lst (.inl (.inl e)) (Rs.dp r (by simpa [plain] using h))
  | _, _, .tup n e r, h => by rw [py]; exact .tup (.inl (.inl e)) (Rs.dp r (by simpa [plain] using h))
  | _, _, .dic n e r, h => by simp [plain] at h
  | _, _, .obj n e r, h => by simp [plain] at h
  | _, _, .exc n e r, h => by simp [plain] at h
theorem Rs.dp : ∀ {v : List V} {x : List D}, Rs O H v x → plains x = true → DpAll KK H v (pys x)
  | _, _, .nil, _ => by rw [pys]; exact .nil
  | _, _, .cons a r, h => by
    rw [plains, Bool.and_eq_true] at h
    rw [pys]
    exact .cons (R.dp a h.1) (Rs.dp r h.2)
end
end
def dEqD : RD := fun x y K => plain x = true ∧ plain y = true ∧ SeqAt.shaped (py x) = true ∧ SeqAt.shaped (py y) = true ∧ K (.bl (PyData.eqv (py x) (py y)))
def dNeD : RD := fun x y K => plain x = true ∧ plain y = true ∧ SeqAt.shaped (py x) = true ∧ SeqAt.shaped (py y) = true ∧ K (.bl (!PyData.eqv (py x) (py y)))
theorem o_eqD {KK : PySem.W.Frag} : OpD (rEqD KK) dEqD where
  mono := fun x y K K' h ⟨a, b, c, d, k⟩ => ⟨a, b, c, d, h _ k⟩
  run := fun m O H n v w x y Q gd old s r1 r2 ⟨a, b, c, d, k⟩ => ⟨_, _, r1.dp a, r2.dp b, c, d, k _ H KX.refl s (.bl _)⟩
theorem o_neD {KK : PySem.W.Frag} : OpD (rNeD KK) dNeD where
  mono := fun x y K K' h ⟨a, b, c, d, k⟩ => ⟨a, b, c, d, h _ k⟩
  run := fun m O H n v w x y Q gd old s r1 r2 ⟨a, b, c, d, k⟩ => ⟨_, _, r1.dp a, r2.dp b, c, d, k _ H KX.refl s (.bl _)⟩
/-! flat things in a row -/
def vOf : D → V
  | .bl b => .bl b
  | .int i => .int i
  | .str s => .str s
  | _ => .non
def flatD : D → Bool
  | .non => true
  | .bl _ => true
  | .int _ => true
  | .str _ => true
  | _ => false
theorem vOf_of {O : Addr → Prop} {H : Hp} {v : V} {x : D} (r : R O H v x) (h : flatD x = true) : v = vOf x ∧ flatV v = true := by
  cases r <;> first | (exact ⟨rfl, rfl⟩) | (cases h)
theorem vOfs_of {O : Addr → Prop} {H : Hp} : ∀ {vs : List V} {ds : List D}, Rs O H vs ds → ds.all flatD = true → vs = ds.map vOf ∧ vs.all flatV = true
  | _, _, .nil, _ => ⟨rfl, rfl⟩
  | _, _, .cons a r, h => by
    rw [List.all_cons, Bool.and_eq_true] at h
    obtain ⟨e1, f1⟩ := vOf_of a h.1
    obtain ⟨e2, f2⟩ := vOfs_of r h.2
    exact ⟨by rw [List.map_cons, ← e1, ← e2], by rw [List.all_cons, f1, f2]; rfl⟩
def inD (x : D) (l : List D) : Bool := inV (vOf x) (l.map vOf)
def dIn (neg : Bool) : RD := fun x y K => ∃ l, (y = .lst l ∨ y = .tup l) ∧ flatD x = true ∧ l.all flatD = true ∧ K (.bl (if neg then !inD x l else inD x l))
theorem o_in {KK : PySem.W.Frag} {neg : Bool} : OpD (rIn KK neg) (dIn neg) where
  mono := fun x y K K' h ⟨l, a, b, c, k⟩ => ⟨l, a, b, c, h _ k⟩
  run := fun m O H n v w x y Q gd old s r1 r2 ⟨l, ey, f1, f2, k⟩ => by
    obtain ⟨e1, g1⟩ := vOf_of r1 f1
    subst e1
    rcases ey with ey | ey
    · subst ey
      cases r2 with
      | lst n1 h1 s1 =>
        obtain ⟨e2, g2⟩ := vOfs_of s1 f2
        subst e2
        exact ⟨_, _, rfl, .inl (.inl (.inl h1)), g1, g2, k _ H KX.refl s (.bl _)⟩
    · subst ey
      cases r2 with
      | tup n1 h1 s1 =>
        obtain ⟨e2, g2⟩ := vOfs_of s1 f2
        subst e2
        exact ⟨_, _, rfl, .inr (.inl (.inl h1)), g1, g2, k _ H KX.refl s (.bl _)⟩
section
variable {X : Cx} {m : Md}
theorem v_ix {r : R2} {rd : RD} {ea eb : Expr} {Ta Tb : TD} {pos : Pos} (h : IxR X r) (hd : OpD r rd) (a : EV X m ea Ta) (b : EV X m eb Tb) (hs : PlainIx eb) : EV X m (.Subscript ea eb pos) (tBin rd Ta Tb) := by
  obtain ⟨ta, tb, pa, pb, hz⟩ := two a b
  refine ⟨fun env n K K' hk q => a.mono _ _ _ _ (fun x n1 q => b.mono _ _ _ _ (fun y n2 q => hd.mono _ _ _ _ (fun d k => hk _ _ k) q) q) q, _, pe_ix h pa pb hs, fun O σ H env n Q e s q => ?_⟩
  exact hz O σ H env n _ _ e s q fun v w x y H2 n2 k2 e2 s2 r1 r2 q => hd.run m O H2 n2 v w x y Q e2.gd e2.old s2 r1 r2 (hd.mono _ _ _ _ (fun d o => out_trans k2 o) q)
/-! ### rows of expressions, tuples, lists -/
def tsNil : TDs := fun _ n K => K [] n
def tsCons (Ta : TD) (Ts : TDs) : TDs := fun env n K => Ta env n fun x n1 => Ts env n1 fun xs n2 => K (x :: xs) n2
theorem a_nil : AV X m [] tsNil := ⟨fun _ n _ _ h k => h _ _ k, _, pa_nil, fun O σ H env n Q e s k => k [] H KX.refl s .nil⟩
theorem a_cons {e : Expr} {es : List Expr} {Ta : TD} {Ts : TDs} (a : EV X m e Ta) (b : AV X m es Ts) (hs : starEach (e :: es) X.env = (false, eval e X.env) :: starEach es X.env := by rfl) : AV X m (e :: es) (tsCons Ta Ts) := by
  obtain ⟨ta, pa, ha⟩ := a.ex
  obtain ⟨tb, pb, hb⟩ := b.ex
  refine ⟨fun env n K K' h q => a.mono _ _ _ _ (fun x n1 q => b.mono _ _ _ _ (fun y n2 k => h _ _ k) q) q, _, pa_cons pa pb hs, fun O σ H env n Q e s q => ?_⟩
  refine ha O σ H env n _ e s (a.mono _ _ _ _ (fun x n1 q => ?_) q)
  intro v H1 k1 s1 r1
  have e1 := e.kx k1 s1
  refine hb O σ H1 env n1 _ e1 s1 (b.mono _ _ _ _ (fun xs n2 q2 => ?_) q)
  intro vs H2 k2 s2 r2
  exact q2 _ H2 (k1.trans k2) s2 (.cons (r1.kx (k2.mono fun x h => e.gd x (m.dg x h))) r2)
def tTupD (Ts : TDs) : TD := fun env n K => Ts env n fun xs n1 => xs.length ≤ sizeLine ∧ K (.tup xs) n1
def tLstD (Ts : TDs) : TD := fun env n K => Ts env n fun xs n1 => xs.length ≤ sizeLine ∧ K (.lst xs) n1
theorem v_tup {es : List Expr} {Ts : TDs} {x1 pos} (a : AV X m es Ts) : EV X m (.Tuple es x1 pos) (tTupD Ts) := by
  obtain ⟨ta, pa, ha⟩ := a.ex
  refine ⟨fun env n K K' h q => a.mono _ _ _ _ (fun x n1 q => ⟨q.1, h _ _ q.2⟩) q, _, pe_tup pa, fun O σ H env n Q e s q => ?_⟩
  refine ha O σ H env n _ e s (a.mono _ _ _ _ (fun xs n1 q => ?_) q)
  intro vs H1 k1 s1 r1
  exact ⟨by rw [r1.length]; exact q.1, fun p hp => out_new (out_trans k1 q.2) s1 hp (r_tup hp ((e.kx k1 s1).new hp) r1)⟩
theorem v_lst {es : List Expr} {Ts : TDs} {pos} (a : AV X m es Ts) : EV X m (.List es pos) (tLstD Ts) := by
  obtain ⟨ta, pa, ha⟩ := a.ex
  refine ⟨fun env n K K' h q => a.mono _ _ _ _ (fun x n1 q => ⟨q.1, h _ _ q.2⟩) q, _, pe_lst pa, fun O σ H env n Q e s q => ?_⟩
  refine ha O σ H env n _ e s (a.mono _ _ _ _ (fun xs n1 q => ?_) q)
  intro vs H1 k1 s1 r1
  exact ⟨by rw [r1.length]; exact q.1, fun p hp => out_new (out_trans k1 q.2) s1 hp (r_lst hp ((e.kx k1 s1).new hp) r1)⟩
/-! ### built-ins that are called by name -/
structure CallD (r : List V → Hp → VK → Prop) (rd : List D → (D → Prop) → Prop) : Prop where
  mono : ∀ xs K K', (∀ d, K d → K' d) → rd xs K → rd xs K'
  run : ∀ (m : Md) (O : Addr → Prop) (H : Hp) (n : Nat) (vs : List V) (xs : List D) (Q : VK), (∀ a, m.g a → O a) → (∀ a, O a → H a ≠ none) → m.St n H → Rs O H vs xs → rd xs (fun d => Out m O H Q d n) → r vs H Q
def tCallB (rd : List D → (D → Prop) → Prop) (Ts : TDs) : TD := fun env n K => Ts env n fun xs n1 => rd xs fun d => K d n1
theorem v_callB {id : String} {x : Str} {p pos : Pos} {e : Expr} {es : List Expr} {r : List V → Hp → VK → Prop} {rd : List D → (D → Prop) → Prop} {Ts : TDs} (hc : CallR X (.builtin id) r) (hd : CallD r rd) (hg : Gl X x) (hm : X.mg x = none) (hv : bootBuiltins x = some (.builtin id)) (a : AV X m (e :: es) Ts)
    (hn : x ≠ "__name__" := by decide) (hdb : (x == ("__debug__" : Str)) = false := by decide) (he : starEach (e :: es) X.env = (false, eval e X.env) :: starEach es X.env := by rfl) (hpl : (backTo pos (starEach es X.env)).any (·.1) = false := by rfl) :
    EV X m (.Call (.Name x p) (e :: es) [] pos) (tCallB rd Ts) := by
  obtain ⟨ta, pa, ha⟩ := a.ex
  refine ⟨fun env n K K' h q => a.mono _ _ _ _ (fun x n1 q => hd.mono _ _ _ (fun d k => h _ _ k) q) q, _, pe_callB hc hg hm hv pa hn hdb he hpl, fun O σ H env n Q e s q => ?_⟩
  refine ha O σ H env n _ e s (a.mono _ _ _ _ (fun xs n1 q => ?_) q)
  intro vs H1 k1 s1 r1
  have e1 := e.kx k1 s1
  exact hd.run m O H1 n1 vs xs Q e1.gd e1.old s1 r1 (hd.mono _ _ _ (fun d o => out_trans k1 o) q)
theorem v_callTy {T : String} {x : Str} {p pos : Pos} {e : Expr} {es : List Expr} {r : List V → Hp → VK → Prop} {rd : List D → (D → Prop) → Prop} {Ts : TDs} (hc : CallR X (.type T) r) (hd : CallD r rd) (hg : Gl X x) (hm : X.mg x = none) (hv : bootBuiltins x = some (.type T)) (a : AV X m (e :: es) Ts)
    (hn : x ≠ "__name__" := by decide) (hdb : (x == ("__debug__" : Str)) = false := by decide) (he : starEach (e :: es) X.env = (false, eval e X.env) :: starEach es X.env := by rfl) (hpl : (backTo pos (starEach es X.env)).any (·.1) = false := by rfl) :
    EV X m (.Call (.Name x p) (e :: es) [] pos) (tCallB rd Ts) := by
  obtain ⟨ta, pa, ha⟩ := a.ex
  refine ⟨fun env n K K' h q => a.mono _ _ _ _ (fun x n1 q => hd.mono _ _ _ (fun d k => h _ _ k) q) q, _, pe_callTy hc hg hm hv pa hn hdb he hpl, fun O σ H env n Q e s q => ?_⟩
  refine ha O σ H env n _ e s (a.mono _ _ _ _ (fun xs n1 q => ?_) q)
  intro vs H1 k1 s1 r1
  have e1 := e.kx k1 s1
  exact hd.run m O H1 n1 vs xs Q e1.gd e1.old s1 r1 (hd.mono _ _ _ (fun d o => out_trans k1 o) q)
end
end DL

set_option Elab.async false
set_option linter.all false
set_option maxRecDepth 100000
set_option maxHeartbeats 1000000
namespace DL
open PySem L2
/-! ### tests -/
section
variable {X : Cx} {m : Md}
def bVal (T : TD) : TDb := fun env n K => T env n fun d n1 => ∃ k, d = .bl k ∧ K k n1
theorem b_cmp {op : CmpOp} {r : R2} {rd : RD} {ea eb : Expr} {Ta Tb : TD} {pos : Pos} (h : OpR X (compareOp op) r) (hd : OpD r rd) (a : EV X m ea Ta) (b : EV X m eb Tb) (h1 : behindInMarks op eb = false) : BV X m (.Compare ea [op] [eb] pos) (bVal (tBin rd Ta Tb)) := by
  obtain ⟨ta, tb, pa, pb, hz⟩ := two a b
  refine ⟨fun env n K K' hk q => a.mono _ _ _ _ (fun x n1 q => b.mono _ _ _ _ (fun y n2 q => hd.mono _ _ _ _ (fun d ⟨k, e, q⟩ => ⟨k, e, hk _ _ q⟩) q) q) q, _, pt_cmpR h pa pb h1, fun O σ H env n Q e s q => ?_⟩
  refine hz O σ H env n _ _ e s q fun v w x y H2 n2 k2 e2 s2 r1 r2 q => hd.run m O H2 n2 v w x y _ e2.gd e2.old s2 r1 r2 (hd.mono _ _ _ _ (fun d ⟨k, ed, o⟩ => ?_) q)
  intro v3 H3 k3 s3 r3
  subst ed
  cases r3
  exact ⟨k, rfl, o H3 (k2.trans k3) s3⟩
/-- a value that is True or False, as a test -/
theorem b_val {e : Expr} {T : TD} (a : EV X m e T) (he : ∀ whole, isTrue e X.env whole = (do let v ← whole; standAt e.pos; holding [v] (truthy v)) := by intro _; rfl) : BV X m e (bVal T) := by
  obtain ⟨ta, pa, ha⟩ := a.ex
  refine ⟨fun env n K K' hk q => a.mono _ _ _ _ (fun x n1 ⟨k, e, q⟩ => ⟨k, e, hk _ _ q⟩) q, _, pt_val pa he, fun O σ H env n Q e s q => ?_⟩
  refine ha O σ H env n _ e s (a.mono _ _ _ _ (fun d n1 ⟨k, ed, o⟩ => ?_) q)
  intro v H1 k1 s1 r1
  subst ed
  cases r1
  exact ⟨k, rfl, o H1 k1 s1⟩
/-- a list, a tuple, a dict, a text, an int as a test -/
def truD : D → Option Bool
  | .non => some false
  | .bl b => some b
  | .int i => some (i != 0)
  | .str s => if s.length ≤ sizeLine then some ((s.length : Int) != 0) else none
  | .lst l => some (!l.isEmpty)
  | .tup l => some (!l.isEmpty)
  | .dic l => some (!l.isEmpty)
  | _ => none
theorem rs_emp {O : Addr → Prop} {H : Hp} {xs : List V} {ds : List D} (r : Rs O H xs ds) : (!ds.isEmpty) = !xs.isEmpty := by cases r <;> rfl
theorem rk_emp {O : Addr → Prop} {H : Hp} {xs : List (Key × V)} {ds : List (Key × D)} (r : Rk O H xs ds) : (!ds.isEmpty) = !xs.isEmpty := by cases r <;> rfl
theorem tru_of {O : Addr → Prop} {H : Hp} {KK : PySem.W.Frag} {v : V} {d : D} {k : Bool} (r : R O H v d) (h : truD d = some k) : TruV KK v H k := by
  cases r with
  | non => cases h; rfl
  | bl b => cases h; rfl
  | int i => cases h; rfl
  | str x =>
    by_cases hl : x.length ≤ sizeLine
    · rw [truD, if_pos hl] at h; cases h; exact ⟨hl, rfl⟩
    · rw [truD, if_neg hl] at h; cases h
  | ptr a => cases h
  | ty s => cases h
  | lst n e s => cases h; exact .inl ⟨_, .inl (.inl e), rs_emp s⟩
  | tup n e s => cases h; exact .inr (.inl ⟨_, .inl (.inl e), rs_emp s⟩)
  | dic n e s => cases h; exact .inr (.inr ⟨_, e, rk_emp s⟩)
  | obj n e s => cases h
  | exc n e s => cases h
  | exv n e n2 e2 s => cases h
  | exn n e => cases h
def bTru (T : TD) : TDb := fun env n K => T env n fun d n1 => ∃ k, truD d = some k ∧ K k n1
theorem b_tru {e : Expr} {T : TD} (a : EV X m e T) (he : ∀ whole, isTrue e X.env whole = (do let v ← whole; standAt e.pos; holding [v] (truthy v)) := by intro _; rfl) : BV X m e (bTru T) := by
  obtain ⟨ta, pa, ha⟩ := a.ex
  refine ⟨fun env n K K' hk q => a.mono _ _ _ _ (fun x n1 ⟨k, e, q⟩ => ⟨k, e, hk _ _ q⟩) q, _, pt_truth pa he, fun O σ H env n Q e s q => ?_⟩
  refine ha O σ H env n _ e s (a.mono _ _ _ _ (fun d n1 ⟨k, ed, o⟩ => ?_) q)
  intro v H1 k1 s1 r1
  exact ⟨k, tru_of r1 ed, o H1 k1 s1⟩
/-! and, or, not -/
structure WV (X : Cx) (m : Md) (e : Expr) (T : TDb) : Prop where
  mono : ∀ env n K K', (∀ d n, K d n → K' d n) → T env n K → T env n K'
  ex : ∃ t, PW X e t ∧ ∀ O σ H env n Q, EE m O σ H env → m.St n H → T env n (OutB m H Q) → t σ H Q
def bAnd (A B : TDb) : TDb := fun env n K => A env n fun c n1 => if c = true then B env n1 K else K false n1
def bOr (A B : TDb) : TDb := fun env n K => A env n fun c n1 => if c = true then K true n1 else B env n1 K
def bNot (A : TDb) : TDb := fun env n K => A env n fun c n1 => K (!c) n1
theorem w_and1 {a : Expr} {A : TDb} {pos : Pos} (h : BV X m a A) : WV X m (.BoolOp .And [a] pos) A := by
  obtain ⟨t, p, hz⟩ := h.ex
  exact ⟨h.mono, _, pw_and1 p, hz⟩
theorem w_or1 {a : Expr} {A : TDb} {pos : Pos} (h : BV X m a A) : WV X m (.BoolOp .Or [a] pos) A := by
  obtain ⟨t, p, hz⟩ := h.ex
  exact ⟨h.mono, _, pw_or1 p, hz⟩
theorem w_and {a b : Expr} {rest : List Expr} {A B : TDb} {pos : Pos} (h : BV X m a A) (g : WV X m (.BoolOp .And (b :: rest) pos) B) : WV X m (.BoolOp .And (a :: b :: rest) pos) (bAnd A B) := by
  obtain ⟨t, p, hz⟩ := h.ex
  obtain ⟨u, q, hy⟩ := g.ex
  refine ⟨fun env n K K' hk z => h.mono _ _ _ _ (fun c n1 z => by cases c <;> simp only [if_true, if_false, Bool.false_eq_true] at z ⊢ <;> first | exact g.mono _ _ _ _ hk z | exact hk _ _ z) z, _, pw_and p q, fun O σ H env n Q e s z => ?_⟩
  refine hz O σ H env n _ e s (h.mono _ _ _ _ (fun c n1 z => ?_) z)
  intro H1 k1 s1
  cases c with
  | false => exact iteF ((show OutB m H Q false n1 from z) H1 k1 s1)
  | true => exact iteT (hy O σ H1 env n1 _ (e.kx k1 s1) s1 (g.mono _ _ _ _ (fun c n o => out_transB k1 o) (show B env n1 _ from z)))
theorem w_or {a b : Expr} {rest : List Expr} {A B : TDb} {pos : Pos} (h : BV X m a A) (g : WV X m (.BoolOp .Or (b :: rest) pos) B) : WV X m (.BoolOp .Or (a :: b :: rest) pos) (bOr A B) := by
  obtain ⟨t, p, hz⟩ := h.ex
  obtain ⟨u, q, hy⟩ := g.ex
  refine ⟨fun env n K K' hk z => h.mono _ _ _ _ (fun c n1 z => by cases c <;> simp only [if_true, if_false, Bool.false_eq_true] at z ⊢ <;> first | exact g.mono _ _ _ _ hk z | exact hk _ _ z) z, _, pw_or p q, fun O σ H env n Q e s z => ?_⟩
  refine hz O σ H env n _ e s (h.mono _ _ _ _ (fun c n1 z => ?_) z)
  intro H1 k1 s1
  cases c with
  | true => exact iteT ((show OutB m H Q true n1 from z) H1 k1 s1)
  | false => exact iteF (hy O σ H1 env n1 _ (e.kx k1 s1) s1 (g.mono _ _ _ _ (fun c n o => out_transB k1 o) (show B env n1 _ from z)))
theorem WV.b {e : Expr} {T : TDb} (h : WV X m e T) : BV X m e T := by
  obtain ⟨t, p, hz⟩ := h.ex
  exact ⟨h.mono, _, p.pt, hz⟩
theorem b_not {a : Expr} {A : TDb} {pos : Pos} (h : BV X m a A) : BV X m (.UnaryOp .Not a pos) (bNot A) := by
  obtain ⟨t, p, hz⟩ := h.ex
  refine ⟨fun env n K K' hk z => h.mono _ _ _ _ (fun c n1 z => hk _ _ z) z, _, pt_not p, fun O σ H env n Q e s z => ?_⟩
  exact hz O σ H env n _ e s (h.mono _ _ _ _ (fun c n1 z H1 k1 s1 => z H1 k1 s1) z)
def tIfE (c : TDb) (A B : TD) : TD := fun env n K => c env n fun b n1 => if b = true then A env n1 K else B env n1 K
theorem v_if {c a b : Expr} {Tc : TDb} {A B : TD} {pos : Pos} (h : BV X m c Tc) (ga : EV X m a A) (gb : EV X m b B) : EV X m (.IfExp c a b pos) (tIfE Tc A B) := by
  obtain ⟨t, p, hz⟩ := h.ex
  obtain ⟨u, q, hy⟩ := ga.ex
  obtain ⟨w, q2, hw⟩ := gb.ex
  refine ⟨fun env n K K' hk z => h.mono _ _ _ _ (fun c n1 z => by cases c <;> simp only [if_true, if_false, Bool.false_eq_true] at z ⊢ <;> first | exact ga.mono _ _ _ _ hk z | exact gb.mono _ _ _ _ hk z) z, _, pe_ifExp p q q2, fun O σ H env n Q e s z => ?_⟩
  refine hz O σ H env n _ e s (h.mono _ _ _ _ (fun c n1 z => ?_) z)
  intro H1 k1 s1
  cases c with
  | true => exact iteT (hy O σ H1 env n1 _ (e.kx k1 s1) s1 (ga.mono _ _ _ _ (fun c n o => out_trans k1 o) (show A env n1 _ from z)))
  | false => exact iteF (hw O σ H1 env n1 _ (e.kx k1 s1) s1 (gb.mono _ _ _ _ (fun c n o => out_trans k1 o) (show B env n1 _ from z)))
/-! and, or as values that are True or False -/
def tAndE (A B : TD) : TD := fun env n K => A env n fun d n1 => ∃ c, d = .bl c ∧ if c = true then B env n1 K else K (.bl false) n1
def tOrE (A B : TD) : TD := fun env n K => A env n fun d n1 => ∃ c, d = .bl c ∧ if c = true then K (.bl true) n1 else B env n1 K
def tNotE (A : TD) : TD := fun env n K => A env n fun d n1 => ∃ c, d = .bl c ∧ K (.bl (!c)) n1
theorem v_one {op : BoolOp} {a : Expr} {A : TD} {pos : Pos} (h : EV X m a A) : EV X m (.BoolOp op [a] pos) A := by
  obtain ⟨t, p, hz⟩ := h.ex
  exact ⟨h.mono, _, pe_one p, hz⟩
theorem v_and {a b : Expr} {rest : List Expr} {A B : TD} {pos : Pos} (h : EV X m a A) (g : EV X m (.BoolOp .And (b :: rest) pos) B) : EV X m (.BoolOp .And (a :: b :: rest) pos) (tAndE A B) := by
  obtain ⟨t, p, hz⟩ := h.ex
  obtain ⟨u, q, hy⟩ := g.ex
  refine ⟨fun env n K K' hk z => h.mono _ _ _ _ (fun d n1 ⟨c, ed, z⟩ => ⟨c, ed, by cases c <;> simp only [if_true, if_false, Bool.false_eq_true] at z ⊢ <;> first | exact g.mono _ _ _ _ hk z | exact hk _ _ z⟩) z, _, pe_and p q, fun O σ H env n Q e s z => ?_⟩
  refine hz O σ H env n _ e s (h.mono _ _ _ _ (fun d n1 ⟨c, ed, z⟩ => ?_) z)
  intro v H1 k1 s1 r1
  subst ed
  cases r1
  refine ⟨c, rfl, ?_⟩
  cases c with
  | false => exact iteF ((show Out m O H Q (.bl false) n1 from z) _ H1 k1 s1 (.bl _))
  | true => exact iteT (hy O σ H1 env n1 _ (e.kx k1 s1) s1 (g.mono _ _ _ _ (fun c n o => out_trans k1 o) (show B env n1 _ from z)))
theorem v_or {a b : Expr} {rest : List Expr} {A B : TD} {pos : Pos} (h : EV X m a A) (g : EV X m (.BoolOp .Or (b :: rest) pos) B) : EV X m (.BoolOp .Or (a :: b :: rest) pos) (tOrE A B) := by
  obtain ⟨t, p, hz⟩ := h.ex
  obtain ⟨u, q, hy⟩ := g.ex
  refine ⟨fun env n K K' hk z => h.mono _ _ _ _ (fun d n1 ⟨c, ed, z⟩ => ⟨c, ed, by cases c <;> simp only [if_true, if_false, Bool.false_eq_true] at z ⊢ <;> first | exact g.mono _ _ _ _ hk z | exact hk _ _ z⟩) z, _, pe_or p q, fun O σ H env n Q e s z => ?_⟩
  refine hz O σ H env n _ e s (h.mono _ _ _ _ (fun d n1 ⟨c, ed, z⟩ => ?_) z)
  intro v H1 k1 s1 r1
  subst ed
  cases r1
  refine ⟨c, rfl, ?_⟩
  cases c with
  | true => exact iteT ((show Out m O H Q (.bl true) n1 from z) _ H1 k1 s1 (.bl _))
  | false => exact iteF (hy O σ H1 env n1 _ (e.kx k1 s1) s1 (g.mono _ _ _ _ (fun c n o => out_trans k1 o) (show B env n1 _ from z)))
theorem v_not {a : Expr} {A : TD} {pos : Pos} (h : EV X m a A) : EV X m (.UnaryOp .Not a pos) (tNotE A) := by
  obtain ⟨t, p, hz⟩ := h.ex
  refine ⟨fun env n K K' hk z => h.mono _ _ _ _ (fun d n1 ⟨c, ed, z⟩ => ⟨c, ed, hk _ _ z⟩) z, _, pe_not p, fun O σ H env n Q e s z => ?_⟩
  refine hz O σ H env n _ e s (h.mono _ _ _ _ (fun d n1 ⟨c, ed, z⟩ => ?_) z)
  intro v H1 k1 s1 r1
  subst ed
  cases r1
  exact ⟨c, rfl, z _ H1 k1 s1 (.bl _)⟩
/-! a < b < c -/
def tChainD (rd rd' : RD) (Ta Tb Tc : TD) : TD := fun env n K => Ta env n fun x n1 => Tb env n1 fun y n2 => rd x y fun z => ∃ k, z = .bl k ∧ if k = true then Tc env n2 fun w n3 => rd' y w fun d => K d n3 else K (.bl false) n2
theorem v_chain {op op' : CmpOp} {r r' : R2} {rd rd' : RD} {ea eb ec : Expr} {Ta Tb Tc : TD} {pos : Pos} (h : OpR X (compareOp op) r) (hd : OpD r rd) (h' : OpR X (compareOp op') r') (hd' : OpD r' rd') (a : EV X m ea Ta) (b : EV X m eb Tb) (c : EV X m ec Tc)
    (hm : lastMarks [op, op'] [eb, ec] = false := by with_unfolding_all rfl) : EV X m (.Compare ea [op, op'] [eb, ec] pos) (tChainD rd rd' Ta Tb Tc) := by
  obtain ⟨ta, tb, pa, pb, hz⟩ := two a b
  obtain ⟨tc, pc, hy⟩ := c.ex
  refine ⟨fun env n K K' hk q => a.mono _ _ _ _ (fun x n1 q => b.mono _ _ _ _ (fun y n2 q => hd.mono _ _ _ _ (fun d ⟨k, e, z⟩ => ⟨k, e, by cases k <;> simp only [if_true, if_false, Bool.false_eq_true] at z ⊢ <;> first | exact c.mono _ _ _ _ (fun w n3 z => hd'.mono _ _ _ _ (fun d z => hk _ _ z) z) z | exact hk _ _ z⟩) q) q) q, _, pe_chain h h' pa pb pc hm, fun O σ H env n Q e s q => ?_⟩
  refine hz O σ H env n _ _ e s q fun v w x y H2 n2 k2 e2 s2 r1 r2 q => hd.run m O H2 n2 v w x y _ e2.gd e2.old s2 r1 r2 (hd.mono _ _ _ _ (fun d ⟨k, ed, z⟩ => ?_) q)
  intro v3 H3 k3 s3 r3
  subst ed
  cases r3
  refine ⟨k, rfl, ?_⟩
  have e3 := e2.kx k3 s3
  cases k with
  | false => exact iteF ((show Out m O H Q (.bl false) n2 from z) _ H3 (k2.trans k3) s3 (.bl _))
  | true =>
    refine iteT (hy O σ H3 env n2 _ e3 s3 (c.mono _ _ _ _ (fun w' n3 z => ?_) (show Tc env n2 _ from z)))
    intro u H4 k4 s4 r4
    have e4 := e3.kx k4 s4
    have r2' : R O H4 w y := (r2.kx (k3.mono fun x h => e.gd x (m.dg x h))).kx (k4.mono fun x h => e.gd x (m.dg x h))
    exact hd'.run m O H4 n3 w u y w' Q e4.gd e4.old s4 r2' r4 (hd'.mono _ _ _ _ (fun d o => out_trans ((k2.trans k3).trans k4) o) z)
/-! ### a part of an expression that looks at own lists -/
def peekS : Sl → Sl
  | .own w => .val w.d
  | s => s
def peek (env : Sls) : Sls := env.map peekS
def ownA (env : Sls) (σ : L2.St) (a : Addr) : Prop := ∃ (i : Nat) (w : OwnS), env[i]? = some (.own w) ∧ σ[i]? = some (some (.ref a))
theorem peek_get {env : Sls} {i : Nat} {s : Sl} (h : (peek env)[i]? = some s) : ∃ t, env[i]? = some t ∧ s = peekS t := by
  unfold peek at h
  rw [List.getElem?_map] at h
  cases e : env[i]? with
  | none => rw [e] at h; cases h
  | some t => rw [e] at h; exact ⟨t, rfl, (Option.some.inj h).symm⟩
theorem EE0.peek {m : Md} {O : Addr → Prop} {σ : L2.St} {H : Hp} {env : Sls} (e : EE0 m O σ H env) : EE0 m (fun a => O a ∧ ¬ ownA env σ a) σ H (peek env) := by
  have ks : ∀ b o, ¬ O b → H b = some o → H b = some o ∧ ¬ (O b ∧ ¬ ownA env σ b) := fun b o n h => ⟨h, fun z => n z.1⟩
  refine ⟨by unfold DL.peek; rw [List.length_map]; exact e.len, fun a ha => ⟨e.gd a ha, fun ⟨i, ds, h1, h2⟩ => ?_⟩, fun a ha => e.old a ha.1, fun i d q => ?_, fun i ds q => ?_⟩
  · obtain ⟨a', g1, g2, g3, g4⟩ := e.own i ds h1
    rw [h2] at g1
    cases g1
    exact g4 ha
  · obtain ⟨t, ht, es⟩ := peek_get q
    cases t with
    | any => cases es
    | val d' =>
      cases es
      obtain ⟨v, h1, h2⟩ := e.val i _ ht
      exact ⟨v, h1, h2.keep ks⟩
    | own ds =>
      cases es
      obtain ⟨a, g1, g2, g3, g4⟩ := e.own i ds ht
      exact ⟨_, g1, (g2.keep ks (fun _ z => z)).r (fun z => z.2 ⟨i, ds, ht, g1⟩)⟩
  · obtain ⟨t, ht, es⟩ := peek_get q
    cases t <;> cases es
theorem b_peek {e : Expr} {T : TDb} (h : BV X m.nox e T) : BV X m e (fun env n K => T (peek env) n K) := by
  obtain ⟨t, p, hz⟩ := h.ex
  exact ⟨fun env n K K' hk z => h.mono _ _ _ _ hk z, _, p, fun O σ H env n Q e s z => hz _ σ H _ n Q e.peek.nox s z⟩
def isScal : D → Bool
  | .non => true
  | .bl _ => true
  | .int _ => true
  | .str _ => true
  | _ => false
theorem scal_any {O O' : Addr → Prop} {H : Hp} {v : V} {d : D} (h : isScal d = true) (r : R O H v d) : R O' H v d := by
  cases r <;> first | exact .non | exact .bl _ | exact .int _ | exact .str _ | cases h
theorem v_peek {e : Expr} {T : TD} (h : EV X m.nox e T) : EV X m e (fun env n K => T (peek env) n fun d n1 => isScal d = true ∧ K d n1) := by
  obtain ⟨t, p, hz⟩ := h.ex
  refine ⟨fun env n K K' hk z => h.mono _ _ _ _ (fun d n1 z => ⟨z.1, hk _ _ z.2⟩) z, _, p, fun O σ H env n Q e s z => ?_⟩
  refine hz _ σ H _ n Q e.peek.nox s (h.mono _ _ _ _ (fun d n1 z => ?_) z)
  intro v H1 k1 s1 r1
  exact z.2 v H1 k1 s1 (scal_any z.1 r1)
end
end DL

set_option Elab.async false
set_option linter.all false
set_option maxRecDepth 100000
set_option maxHeartbeats 1000000
namespace DL
open PySem L2
/-! ### what is walked -/
theorem new_same {H : Hp} {p : Addr} {o : HO} (h : H p = none) : Same H (upd H p o) := fun b u e => by rw [upd_ne (ne_of_none e h)]; exact e
/-- what J gives: the data ds, as long as what it walks stands -/
def ItOk (O : Addr → Prop) (H1 : Hp) (J : It) (ds : List D) : Prop :=
  ∃ (G : Hp → Prop) (Y : Nat → Hp → V → Hp → Prop), Walk J ds.length G Y ∧ (∀ H2, KX O H1 H2 → G H2) ∧
    ∀ i H2 x H3, i < ds.length → KX O H1 H2 → Y i H2 x H3 → ∃ d, ds[i]? = some d ∧ Same H2 H3 ∧ ∀ O' : Addr → Prop, (∀ a, O' a → H2 a ≠ none) → (∀ a o, ¬ O a → H1 a = some o → ¬ O' a) → R O' H3 x d
abbrev TDi := Sls → Nat → (List D → Nat → Prop) → Prop
structure IV (X : Cx) (m : Md) (tg iter : Expr) (T : TDi) : Prop where
  mono : ∀ env n K K', (∀ d n, K d n → K' d n) → T env n K → T env n K'
  ex : ∃ wi, PI X tg iter wi ∧ ∀ O σ H env n (Q : It → Hp → Prop), EE m O σ H env → m.St n H → T env n (fun ds n' => ∀ J H1, KX m.d H H1 → m.St n' H1 → ItOk O H1 J ds → Q J H1) → wi σ H Q
theorem r_move {O O' : Addr → Prop} {H1 H2 : Hp} {x : V} {d : D} (r : R O H1 x d) (k : KX O H1 H2) (h : ∀ a o, ¬ O a → H1 a = some o → ¬ O' a) : R O' H2 x d := r.keep fun b o n e => ⟨k b o n e, h b o n e⟩
theorem rs_lt {O : Addr → Prop} {H : Hp} {xs : List V} {ds : List D} (r : Rs O H xs ds) {i : Nat} (h : i < ds.length) : ∃ v d, xs[i]? = some v ∧ ds[i]? = some d ∧ R O H v d := by
  have e : ds[i]? = some ds[i] := List.getElem?_eq_getElem h
  obtain ⟨v, h1, h2⟩ := r.getD e
  exact ⟨v, _, h1, e, h2⟩
theorem it_list {K : PySem.W.Frag} {O : Addr → Prop} {H1 : Hp} {a : Addr} {xs : List V} {ds : List D} (n : ¬ O a) (h : H1 a = some (.lst xs)) (r : Rs O H1 xs ds) : ItOk O H1 (Itl K a) ds := by
  refine ⟨fun H => SqL K H a xs, YAt xs, by rw [← r.length]; exact walk_list, fun H2 k => .inl (.inl (k _ _ n h)), fun i H2 x H3 hi k y => ?_⟩
  obtain ⟨v, d, h1, h2, h3⟩ := rs_lt r hi
  obtain ⟨e1, e2⟩ := y
  rw [h1] at e2
  cases e2
  subst e1
  exact ⟨d, h2, fun b o e => e, fun O' _ q => r_move h3 k q⟩
theorem it_tup {K : PySem.W.Frag} {O : Addr → Prop} {H1 : Hp} {a : Addr} {xs : List V} {ds : List D} (n : ¬ O a) (h : H1 a = some (.tup xs)) (r : Rs O H1 xs ds) : ItOk O H1 (Itt K a) ds := by
  refine ⟨fun H => SqT K H a xs, YAt xs, by rw [← r.length]; exact walk_tup, fun H2 k => .inl (.inl (k _ _ n h)), fun i H2 x H3 hi k y => ?_⟩
  obtain ⟨v, d, h1, h2, h3⟩ := rs_lt r hi
  obtain ⟨e1, e2⟩ := y
  rw [h1] at e2
  cases e2
  subst e1
  exact ⟨d, h2, fun b o e => e, fun O' _ q => r_move h3 k q⟩
def rangeD (lo : Int) (n : Nat) : List D := (List.range n).map fun i => .int (lo + (i : Nat))
theorem range_len (lo : Int) (n : Nat) : (rangeD lo n).length = n := by unfold rangeD; rw [List.length_map, List.length_range]
theorem range_get (lo : Int) (n i : Nat) (h : i < n) : (rangeD lo n)[i]? = some (.int (lo + (i : Nat))) := by
  unfold rangeD
  rw [List.getElem?_map, List.getElem?_range h]
  rfl
theorem it_range {O : Addr → Prop} {H1 : Hp} {lo : Int} {n : Nat} : ItOk O H1 (Itr lo n) (rangeD lo n) := by
  refine ⟨fun _ => True, YFn fun i => .int (lo + i), by rw [range_len]; exact walk_range, fun _ _ => trivial, fun i H2 x H3 hi k y => ?_⟩
  rw [range_len] at hi
  obtain ⟨e1, e2⟩ := y
  subst e1; subst e2
  exact ⟨_, range_get lo n i hi, fun b o e => e, fun O' _ _ => .int _⟩
def charsD (z : Str) : List D := z.cps.toList.map fun c => .str ⟨#[c]⟩
theorem it_str {O : Addr → Prop} {H1 : Hp} {z : Str} : ItOk O H1 (Its z) (charsD z) := by
  have el : (charsD z).length = z.cps.size := by unfold charsD; rw [List.length_map, Array.length_toList]
  refine ⟨fun _ => True, fun i H v H' => H' = H ∧ ∃ c, z.cps[i]? = some c ∧ v = .str ⟨#[c]⟩, by rw [el]; exact walk_str, fun _ _ => trivial, fun i H2 x H3 hi k y => ?_⟩
  obtain ⟨e1, c, e2, e3⟩ := y
  subst e1; subst e3
  refine ⟨.str ⟨#[c]⟩, ?_, fun b o e => e, fun O' _ _ => .str _⟩
  unfold charsD
  rw [List.getElem?_map, Array.getElem?_toList, e2]
  rfl
def enumD (l : List D) : List D := (List.range l.length).map fun i => .tup [.int (i : Nat), l.getD i .non]
theorem pair_ok {O' : Addr → Prop} {H2 : Hp} {t : Addr} {v w : V} {x y : D} (nt : H2 t = none) (old : ∀ a, O' a → H2 a ≠ none) (r1 : R O' H2 v x) (r2 : R O' H2 w y) : R O' (upd H2 t (.tup [v, w])) (.ref t) (.tup [x, y]) :=
  r_tup nt (fun z => old t z nt) (.cons r1 (.cons r2 .nil))
theorem it_enum {K : PySem.W.Frag} {O : Addr → Prop} {H1 : Hp} {a : Addr} {xs : List V} {ds : List D} (n : ¬ O a) (h : H1 a = some (.lst xs)) (r : Rs O H1 xs ds) : ItOk O H1 (Ite K a) (enumD ds) := by
  have el : (enumD ds).length = xs.length := by unfold enumD; rw [List.length_map, List.length_range, r.length]
  refine ⟨fun H => SqL K H a xs, YPair (fun i => some (.int (i : Nat))) (fun i => xs[i]?), by rw [el]; exact walk_enum, fun H2 k => .inl (.inl (k _ _ n h)), fun i H2 x H3 hi k y => ?_⟩
  rw [el, r.length] at hi
  obtain ⟨v, d, h1, h2, h3⟩ := rs_lt r hi
  obtain ⟨t, x1, x2, e1, nt, e2, f1, f2⟩ := y
  replace f2 : xs[i]? = some x2 := f2
  rw [h1] at f2
  cases f1; cases f2
  subst e1; subst e2
  refine ⟨.tup [.int (i : Nat), d], ?_, new_same nt, fun O' old q => pair_ok nt old (.int _) (r_move h3 k q)⟩
  unfold enumD
  rw [List.getElem?_map, List.getElem?_range hi]
  show some (D.tup [.int (i : Nat), ds.getD i .non]) = _
  rw [List.getD_eq_getElem?_getD, h2]
  rfl
def zipD (l k : List D) : List D := (l.zip k).map fun p => .tup [p.1, p.2]
theorem it_zip {K : PySem.W.Frag} {O : Addr → Prop} {H1 : Hp} {a b : Addr} {xs ys : List V} {ds es : List D} (na : ¬ O a) (ha : H1 a = some (.lst xs)) (nb : ¬ O b) (hb : H1 b = some (.lst ys)) (r : Rs O H1 xs ds) (s : Rs O H1 ys es) : ItOk O H1 (Itz K a b) (zipD ds es) := by
  have el : (zipD ds es).length = min xs.length ys.length := by unfold zipD; rw [List.length_map, List.length_zip, r.length, s.length]
  refine ⟨fun H => SqL K H a xs ∧ SqL K H b ys, YPair (fun i => xs[i]?) (fun i => ys[i]?), by rw [el]; exact walk_zip rfl, fun H2 k => ⟨.inl (.inl (k _ _ na ha)), .inl (.inl (k _ _ nb hb))⟩, fun i H2 x H3 hi k y => ?_⟩
  have hi' : i < min ds.length es.length := by rw [el, r.length, s.length] at hi; exact hi
  obtain ⟨v, d, h1, h2, h3⟩ := rs_lt r (show i < ds.length by omega)
  obtain ⟨w, e, g1, g2, g3⟩ := rs_lt s (show i < es.length by omega)
  obtain ⟨t, x1, x2, e1, nt, e2, f1, f2⟩ := y
  replace f1 : xs[i]? = some x1 := f1
  replace f2 : ys[i]? = some x2 := f2
  rw [h1] at f1
  rw [g1] at f2
  cases f1; cases f2
  subst e1; subst e2
  refine ⟨.tup [d, e], ?_, new_same nt, fun O' old q => pair_ok nt old (r_move h3 k q) (r_move g3 k q)⟩
  unfold zipD
  rw [List.getElem?_map, show (ds.zip es)[i]? = some (d, e) from List.getElem?_zip_eq_some.mpr ⟨h2, g2⟩]
  rfl
section
variable {X : Cx} {m : Md}
def iLst (T : TD) : TDi := fun env n K => T env n fun d n1 => ∃ l, d = .lst l ∧ K l n1
def iTupD (T : TD) : TDi := fun env n K => T env n fun d n1 => ∃ l, d = .tup l ∧ K l n1
theorem i_list {tg e : Expr} {T : TD} (a : EV X m e T) : IV X m tg e (iLst T) := by
  obtain ⟨t, p, h⟩ := a.ex
  refine ⟨fun env n K K' hk q => a.mono _ _ _ _ (fun d n1 ⟨l, e, q⟩ => ⟨l, e, hk _ _ q⟩) q, _, pi_list p, fun O σ H env n Q e s q => ?_⟩
  refine h O σ H env n _ e s (a.mono _ _ _ _ (fun d n1 ⟨l, ed, q⟩ => ?_) q)
  intro v H1 k1 s1 r1
  subst ed
  cases r1 with
  | lst n1 h1 s2 => exact ⟨_, rfl, ⟨_, .inl (.inl h1)⟩, q _ H1 k1 s1 (it_list n1 h1 s2)⟩
theorem i_tup {tg e : Expr} {T : TD} (a : EV X m e T) : IV X m tg e (iTupD T) := by
  obtain ⟨t, p, h⟩ := a.ex
  refine ⟨fun env n K K' hk q => a.mono _ _ _ _ (fun d n1 ⟨l, e, q⟩ => ⟨l, e, hk _ _ q⟩) q, _, pi_tup p, fun O σ H env n Q e s q => ?_⟩
  refine h O σ H env n _ e s (a.mono _ _ _ _ (fun d n1 ⟨l, ed, q⟩ => ?_) q)
  intro v H1 k1 s1 r1
  subst ed
  cases r1 with
  | tup n1 h1 s2 => exact ⟨_, rfl, ⟨_, .inl (.inl h1)⟩, q _ H1 k1 s1 (it_tup n1 h1 s2)⟩
def iStrD (T : TD) : TDi := fun env n K => T env n fun d n1 => ∃ z, d = .str z ∧ K (charsD z) n1
theorem i_str {tg e : Expr} {T : TD} (a : EV X m e T) : IV X m tg e (iStrD T) := by
  obtain ⟨t, p, h⟩ := a.ex
  refine ⟨fun env n K K' hk q => a.mono _ _ _ _ (fun d n1 ⟨l, e, q⟩ => ⟨l, e, hk _ _ q⟩) q, _, pi_str p, fun O σ H env n Q e s q => ?_⟩
  refine h O σ H env n _ e s (a.mono _ _ _ _ (fun d n1 ⟨l, ed, q⟩ => ?_) q)
  intro v H1 k1 s1 r1
  subst ed
  cases r1
  exact ⟨_, rfl, q _ H1 k1 s1 it_str⟩
def iRangeD (Ts : TDs) : TDi := fun env n K => Ts env n fun xs n1 => ∃ j, xs = [.int j] ∧ -(2 ^ 62) ≤ j ∧ j < 2 ^ 62 ∧ K (rangeD 0 j.toNat) n1
theorem i_range {tg a : Expr} {Ts : TDs} {p pos : Pos} (ha : AV X m [a] Ts) (hg : Gl X "range") (hm : X.mg "range" = none) (hs : starEach [a] X.env = [(false, eval a X.env)] := by rfl) : IV X m tg (.Call (.Name "range" p) [a] [] pos) (iRangeD Ts) := by
  obtain ⟨t, pa, h⟩ := ha.ex
  refine ⟨fun env n K K' hk q => ha.mono _ _ _ _ (fun d n1 ⟨l, e, a, b, q⟩ => ⟨l, e, a, b, hk _ _ q⟩) q, _, pi_range1 hg hm pa hs, fun O σ H env n Q e s q => ?_⟩
  refine h O σ H env n _ e s (ha.mono _ _ _ _ (fun xs n1 ⟨j, ed, a, b, q⟩ => ?_) q)
  intro vs H1 k1 s1 r1
  subst ed
  cases r1 with
  | cons r1 r2 =>
    cases r2
    cases r1
    exact ⟨j, rfl, a, b, q _ H1 k1 s1 it_range⟩
def iRange2D (Ts : TDs) : TDi := fun env n K => Ts env n fun xs n1 => ∃ i j, xs = [.int i, .int j] ∧ (-(2 ^ 62) ≤ i ∧ i < 2 ^ 62 ∧ -(2 ^ 62) ≤ j ∧ j < 2 ^ 62) ∧ K (rangeD i (j - i).toNat) n1
theorem i_range2 {tg a b : Expr} {Ts : TDs} {p pos : Pos} (ha : AV X m [a, b] Ts) (hg : Gl X "range") (hm : X.mg "range" = none) (hs : starEach [a, b] X.env = [(false, eval a X.env), (false, eval b X.env)] := by rfl) (hs2 : starEach [b] X.env = [(false, eval b X.env)] := by rfl) : IV X m tg (.Call (.Name "range" p) [a, b] [] pos) (iRange2D Ts) := by
  obtain ⟨t, pa, h⟩ := ha.ex
  refine ⟨fun env n K K' hk q => ha.mono _ _ _ _ (fun d n1 ⟨l, j, e, a, q⟩ => ⟨l, j, e, a, hk _ _ q⟩) q, _, pi_range2 hg hm pa hs hs2, fun O σ H env n Q e s q => ?_⟩
  refine h O σ H env n _ e s (ha.mono _ _ _ _ (fun xs n1 ⟨i, j, ed, a, q⟩ => ?_) q)
  intro vs H1 k1 s1 r1
  subst ed
  cases r1 with
  | cons r1 r2 =>
    cases r2 with
    | cons r2 r3 =>
      cases r3
      cases r1
      cases r2
      exact ⟨i, j, rfl, a, q _ H1 k1 s1 it_range⟩
def iEnumD (Ts : TDs) : TDi := fun env n K => Ts env n fun xs n1 => ∃ l, xs = [.lst l] ∧ K (enumD l) n1
theorem i_enum {e : Expr} {Ts : TDs} {p pos tpos : Pos} {elts : List Expr} {kk : Nat} (ha : AV X m [e] Ts) (hg : Gl X "enumerate") (hm : X.mg "enumerate" = none) (hs : starEach [e] X.env = [(false, eval e X.env)] := by rfl) : IV X m (.Tuple elts kk tpos) (.Call (.Name "enumerate" p) [e] [] pos) (iEnumD Ts) := by
  obtain ⟨t, pa, h⟩ := ha.ex
  refine ⟨fun env n K K' hk q => ha.mono _ _ _ _ (fun d n1 ⟨l, e, q⟩ => ⟨l, e, hk _ _ q⟩) q, _, pi_enum hg hm pa hs, fun O σ H env n Q e s q => ?_⟩
  refine h O σ H env n _ e s (ha.mono _ _ _ _ (fun xs n1 ⟨l, ed, q⟩ => ?_) q)
  intro vs H1 k1 s1 r1
  subst ed
  cases r1 with
  | cons r1 r2 =>
    cases r2
    cases r1 with
    | lst n1 h1 s2 => exact ⟨_, _, rfl, .inl (.inl h1), q _ H1 k1 s1 (it_enum n1 h1 s2)⟩
def iZipD (Ts : TDs) : TDi := fun env n K => Ts env n fun xs n1 => ∃ l k, xs = [.lst l, .lst k] ∧ K (zipD l k) n1
theorem i_zip {e e2 : Expr} {Ts : TDs} {p pos tpos : Pos} {elts : List Expr} {kk : Nat} (ha : AV X m [e, e2] Ts) (hg : Gl X "zip") (hm : X.mg "zip" = none) (hs : starEach [e, e2] X.env = (false, eval e X.env) :: starEach [e2] X.env := by rfl) (hpl : (backTo pos (starEach [e2] X.env)).any (·.1) = false := by rfl) : IV X m (.Tuple elts kk tpos) (.Call (.Name "zip" p) [e, e2] [] pos) (iZipD Ts) := by
  obtain ⟨t, pa, h⟩ := ha.ex
  refine ⟨fun env n K K' hk q => ha.mono _ _ _ _ (fun d n1 ⟨l, k, e, q⟩ => ⟨l, k, e, hk _ _ q⟩) q, _, pi_zip hg hm pa hs hpl, fun O σ H env n Q e s q => ?_⟩
  refine h O σ H env n _ e s (ha.mono _ _ _ _ (fun xs n1 ⟨l, k, ed, q⟩ => ?_) q)
  intro vs H1 k1 s1 r1
  subst ed
  cases r1 with
  | cons r1 r2 =>
    cases r2 with
    | cons r2 r3 =>
      cases r3
      cases r1 with
      | lst n1 h1 s2 =>
        cases r2 with
        | lst n2 h2 s3 => exact ⟨_, _, _, _, rfl, .inl (.inl h1), .inl (.inl h2), q _ H1 k1 s1 (it_zip n1 h1 n2 h2 s2 s3)⟩
/-! ### targets -/
def sets (σ : L2.St) : List (Nat × V) → L2.St
  | [] => σ
  | p :: r => sets (σ.set p.1 (some p.2)) r
def setsE (env : Sls) : List (Nat × D) → Sls
  | [] => env
  | p :: r => setsE (env.set p.1 (.val p.2)) r
def wipeE (env : Sls) (vs : List Nat) : Sls := env.mapIdx fun i s => if i ∈ vs then .any else s
inductive As (O : Addr → Prop) (H : Hp) : List (Nat × V) → List (Nat × D) → Prop
  | nil : As O H [] []
  | cons {i : Nat} {v : V} {d : D} {r : List (Nat × V)} {s : List (Nat × D)} : R O H v d → As O H r s → As O H ((i, v) :: r) ((i, d) :: s)
structure TV (X : Cx) (tg : Expr) (g : TG) (f : D → List (Nat × D) → Prop) : Prop where
  pg : PG X tg g
  run : ∀ O H v d asg, R O H v d → f d asg → ∃ vas, As O H vas asg ∧ ∀ σ Q, Q (sets σ vas) H → g v σ H Q
def fName (i : Nat) : D → List (Nat × D) → Prop := fun d asg => asg = [(i, d)]
theorem t_name {i : Nat} {x : Str} {pos : Pos} (hN : X.N.Nodup) (hi : X.N[i]? = some x) (hx : Loc X.env.scope x) (hf : X.fn x = true ∨ X.env.scope.names.lookup x = some .local := by first | exact .inl rfl | exact .inr rfl | assumption) : TV X (.Name x pos) (gName i) (fName i) :=
  ⟨pg_name hN hi hx hf, fun O H v d asg r e => by
    cases e
    exact ⟨[(i, v)], .cons r .nil, fun σ Q q => q⟩⟩
structure TVs (X : Cx) (ts : List Expr) (g : TGs) (f : List D → List (Nat × D) → Prop) : Prop where
  pg : PGs X ts g
  run : ∀ O H vs ds asg, Rs O H vs ds → f ds asg → ∃ vas, As O H vas asg ∧ ∀ σ Q, Q (sets σ vas) H → g vs σ H Q
theorem As.app {O : Addr → Prop} {H : Hp} : ∀ {a : List (Nat × V)} {b : List (Nat × D)} {c : List (Nat × V)} {d : List (Nat × D)}, As O H a b → As O H c d → As O H (a ++ c) (b ++ d)
  | _, _, _, _, .nil, s => s
  | _, _, _, _, .cons h r, s => .cons h (r.app s)
theorem sets_app (σ : L2.St) : ∀ (a b : List (Nat × V)), sets σ (a ++ b) = sets (sets σ a) b := by
  intro a
  induction a generalizing σ with
  | nil => intro b; rfl
  | cons p r ih => intro b; exact ih _ b
def fNil : List D → List (Nat × D) → Prop := fun ds asg => ds = [] ∧ asg = []
def fCons (f : D → List (Nat × D) → Prop) (g : List D → List (Nat × D) → Prop) : List D → List (Nat × D) → Prop := fun ds asg => ∃ d r a b, ds = d :: r ∧ f d a ∧ g r b ∧ asg = a ++ b
theorem ts_nil : TVs X [] gNil fNil := ⟨pgs_nil, fun O H vs ds asg r ⟨e, e2⟩ => by
  subst e; subst e2
  cases r
  exact ⟨[], .nil, fun σ Q q => ⟨rfl, q⟩⟩⟩
theorem ts_cons {e : Expr} {es : List Expr} {u : TG} {w : TGs} {f : D → List (Nat × D) → Prop} {g : List D → List (Nat × D) → Prop} (a : TV X e u f) (b : TVs X es w g) (hs : (assignEach (e :: es) X.env).map (·.2) = assign e X.env :: (assignEach es X.env).map (·.2) := by rfl) : TVs X (e :: es) (gCons u w) (fCons f g) := by
  obtain ⟨p, h⟩ := a
  obtain ⟨q, h2⟩ := b
  refine ⟨pgs_cons p q hs, fun O H vs ds asg r ⟨d, rr, x, y, e1, e2, e3, e4⟩ => ?_⟩
  subst e1; subst e4
  cases r with
  | cons r1 r2 =>
    obtain ⟨v1, a1, q1⟩ := h O H _ _ _ r1 e2
    obtain ⟨v2, a2, q2⟩ := h2 O H _ _ _ r2 e3
    exact ⟨v1 ++ v2, a1.app a2, fun σ Q z => ⟨_, _, rfl, q1 _ _ (q2 _ _ (by rw [sets_app] at z; exact z))⟩⟩
def fTup (k : Nat) (g : List D → List (Nat × D) → Prop) : D → List (Nat × D) → Prop := fun d asg => ∃ l, d = .tup l ∧ l.length = k ∧ g l asg
theorem t_tup {es : List Expr} {k n : Nat} {u : TGs} {g : List D → List (Nat × D) → Prop} {pos : Pos} (hc : X.calm = true) (a : TVs X es u g) (hn : (assignEach es X.env).length = n := by rfl) (hst : (assignEach es X.env).findIdx? (·.1) = none := by rfl) : TV X (.Tuple es k pos) (gTup X.K n u) (fTup n g) := by
  obtain ⟨p, h⟩ := a
  refine ⟨pg_tup hc p hn hst, fun O H v d asg r ⟨l, e1, e2, e3⟩ => ?_⟩
  subst e1
  cases r with
  | tup n1 h1 s1 =>
    obtain ⟨vas, a1, q1⟩ := h O H _ _ _ s1 e3
    exact ⟨vas, a1, fun σ Q z => ⟨_, _, rfl, .inl (.inl h1), by rw [s1.length]; exact e2, q1 _ _ z⟩⟩
end
/-! slots wiped, slots stored -/
theorem wipe_get (σ : L2.St) : ∀ (vs : List Nat) (i : Nat), i < σ.length → (wipe σ vs)[i]? = if i ∈ vs then some none else σ[i]?
  | [], i, h => by simp [wipe]
  | v :: vs, i, h => by
    have hl := wipe_length σ vs
    rw [wipe, List.getElem?_set]
    by_cases e : v = i
    · subst e
      rw [if_pos rfl, if_pos (by omega), if_pos (List.mem_cons_self ..)]
    · rw [if_neg e, wipe_get σ vs i h]
      simp only [List.mem_cons, show ¬ i = v from fun z => e z.symm, false_or]
theorem sets_len (σ : L2.St) : ∀ vas : List (Nat × V), (sets σ vas).length = σ.length := by
  intro vas
  induction vas generalizing σ with
  | nil => rfl
  | cons p r ih => show (sets (σ.set _ _) r).length = _; rw [ih, List.length_set]
theorem sets_get (σ : L2.St) : ∀ (vas : List (Nat × V)) (i : Nat), i ∉ vas.map (·.1) → (sets σ vas)[i]? = σ[i]? := by
  intro vas
  induction vas generalizing σ with
  | nil => intro i _; rfl
  | cons p r ih =>
    intro i h
    simp only [List.map_cons, List.mem_cons, not_or] at h
    show (sets (σ.set _ _) r)[i]? = _
    rw [ih _ i h.2, List.getElem?_set_ne (fun z => h.1 z.symm)]
theorem wipe_sets (σ : L2.St) (vs : List Nat) (vas : List (Nat × V)) (h : ∀ i ∈ vas.map (·.1), i ∈ vs) : wipe (sets (wipe σ vs) vas) vs = wipe σ vs := by
  apply List.ext_getElem?
  intro i
  by_cases hi : i < σ.length
  · rw [wipe_get _ vs i (by rw [sets_len, wipe_length]; exact hi), wipe_get σ vs i hi]
    by_cases hv : i ∈ vs
    · rw [if_pos hv, if_pos hv]
    · rw [if_neg hv, if_neg hv, sets_get _ _ _ (fun z => hv (h i z)), wipe_get σ vs i hi, if_neg hv]
  · rw [List.getElem?_eq_none (by rw [wipe_length, sets_len, wipe_length]; omega), List.getElem?_eq_none (by rw [wipe_length]; omega)]
theorem wipeE_get {env : Sls} {vs : List Nat} {i : Nat} {s : Sl} (h : (wipeE env vs)[i]? = some s) : (i ∈ vs ∧ s = .any) ∨ (i ∉ vs ∧ env[i]? = some s) := by
  unfold wipeE at h
  rw [List.getElem?_mapIdx] at h
  cases e : env[i]? with
  | none => rw [e] at h; cases h
  | some t =>
    rw [e] at h
    have h' : (if i ∈ vs then Sl.any else t) = s := Option.some.inj h
    by_cases hv : i ∈ vs
    · rw [if_pos hv] at h'; exact .inl ⟨hv, h'.symm⟩
    · rw [if_neg hv] at h'; exact .inr ⟨hv, by rw [h']⟩
theorem EE0.wipe {m : Md} {O : Addr → Prop} {σ : L2.St} {H : Hp} {env : Sls} (e : EE0 m O σ H env) (vs : List Nat) : EE0 m O (wipe σ vs) H (wipeE env vs) := by
  have lt : ∀ {i : Nat} {s : Sl}, env[i]? = some s → i < σ.length := fun {i s} q => by
    have := (List.getElem?_eq_some_iff.mp q).1
    rw [e.len]; exact this
  refine ⟨by rw [wipe_length]; unfold wipeE; rw [List.length_mapIdx]; exact e.len, e.gd, e.old, fun i d q => ?_, fun i ds q => ?_⟩
  · rcases wipeE_get q with ⟨_, z⟩ | ⟨nv, q⟩
    · cases z
    · rw [wipe_get σ vs i (lt q), if_neg nv]
      exact e.val i d q
  · rcases wipeE_get q with ⟨_, z⟩ | ⟨nv, q⟩
    · cases z
    · rw [wipe_get σ vs i (lt q), if_neg nv]
      exact e.own i ds q
theorem EE0.set {m : Md} {O : Addr → Prop} {σ : L2.St} {H : Hp} {env : Sls} (e : EE0 m O σ H env) {i : Nat} {v : V} {d : D} (r : R O H v d) : EE0 m O (σ.set i (some v)) H (env.set i (.val d)) := by
  refine ⟨by rw [List.length_set, List.length_set]; exact e.len, e.gd, e.old, fun j d' q => ?_, fun j ds q => ?_⟩
  · rw [List.getElem?_set] at q
    by_cases hj : i = j
    · subst hj
      rw [if_pos rfl] at q
      split at q
      · cases q
        exact ⟨v, by rw [List.getElem?_set_self (by rw [e.len]; assumption)], r⟩
      · cases q
    · rw [if_neg hj] at q
      rw [List.getElem?_set_ne hj]
      exact e.val j d' q
  · rw [List.getElem?_set] at q
    by_cases hj : i = j
    · subst hj
      rw [if_pos rfl] at q
      split at q <;> cases q
    · rw [if_neg hj] at q
      rw [List.getElem?_set_ne hj]
      exact e.own j ds q
theorem EE0.sets {m : Md} {O : Addr → Prop} {H : Hp} : ∀ {vas : List (Nat × V)} {asg : List (Nat × D)} {σ : L2.St} {env : Sls}, EE0 m O σ H env → As O H vas asg → EE0 m O (sets σ vas) H (setsE env asg)
  | _, _, _, _, e, .nil => e
  | _, _, _, _, e, .cons r a => (e.set r).sets a
theorem As.fst {O : Addr → Prop} {H : Hp} : ∀ {vas : List (Nat × V)} {asg : List (Nat × D)}, As O H vas asg → vas.map (·.1) = asg.map (·.1)
  | _, _, .nil => rfl
  | _, _, .cons _ a => by rw [List.map_cons, List.map_cons, a.fst]
end DL

set_option Elab.async false
set_option linter.all false
set_option maxRecDepth 100000
set_option maxHeartbeats 1000000
namespace DL
open PySem L2
/-! ### comprehensions -/
theorem PE.imp {X : Cx} {e : Expr} {t t' : TE} (h : PE X e t) (k : ∀ σ H Q, t' σ H Q → t σ H Q) : PE X e t' := ⟨fun pins s σ H Q I w => h.run pins s σ H Q I (k _ _ _ w)⟩
theorem PG.imp {X : Cx} {e : Expr} {t t' : TG} (h : PG X e t) (k : ∀ v σ H Q, t' v σ H Q → t v σ H Q) : PG X e t' := ⟨fun pins s σ H v u Q I r w => h.run pins s σ H v u Q I r (k _ _ _ _ w)⟩
theorem PTs.imp {X : Cx} {e : List Expr} {t t' : TT} (h : PTs X e t) (k : ∀ σ H Q, t' σ H Q → t σ H Q) : PTs X e t' := ⟨fun pins s σ H Q I w => h.run pins s σ H Q I (k _ _ _ w)⟩
/-- the ifs of a comprehension -/
structure QV (X : Cx) (m : Md) (ifs : List Expr) (T : TDb) : Prop where
  mono : ∀ env n K K', (∀ d n, K d n → K' d n) → T env n K → T env n K'
  ex : ∃ t, PTs X ifs t ∧ ∀ O σ H env n Q, EE m O σ H env → m.St n H → T env n (OutB m H Q) → t σ H Q
def qYes : TDb := fun _ n K => K true n
section
variable {X : Cx} {m : Md}
theorem q_nil : QV X m [] qYes := ⟨fun _ n _ _ h k => h _ _ k, _, pts_nil, fun O σ H env n Q e s k => k H KX.refl s⟩
theorem q_one {c : Expr} {T : TDb} (h : BV X m c T) : QV X m [c] T := by
  obtain ⟨t, p, hz⟩ := h.ex
  exact ⟨h.mono, _, pts_one p, hz⟩
def tLcD (It : TDi) (f : D → List (Nat × D) → Prop) (Tt : TDb) (Te : TD) (vs : List Nat) : TD := fun env n K => It env n fun ds n1 => ∃ I : Nat → List D → Nat → Prop, I 0 [] n1 ∧
  (∀ i d acc n2, ds[i]? = some d → acc.length ≤ i → I i acc n2 → ∃ asg, f d asg ∧ (∀ p ∈ asg, p.1 ∈ vs) ∧ Tt (setsE (wipeE env vs) asg) n2 fun b n3 => if b = true then Te (setsE (wipeE env vs) asg) n3 fun y n4 => acc.length < sizeLine ∧ I (i + 1) (acc ++ [y]) n4 else I (i + 1) acc n3) ∧
  ∀ acc n2, acc.length ≤ ds.length → I ds.length acc n2 → K (.lst acc) n2
theorem st_put {m : Md} {n : Nat} {H : Hp} {p : Addr} {o : HO} (s : m.St n H) (h : ¬ m.g p) (he : ∀ f, H p ≠ some (.ext f)) : m.St n (upd H p o) := m.keep n H _ s fun a u g e => by
  rw [upd_ne (show a ≠ p from fun z => g.elim (fun g => h (by rw [← z]; exact g)) fun ⟨f, ef⟩ => he f (by rw [← z, ← ef]; exact e))]; exact e
/-- what a comprehension's reading asks: from where the source has been taken -/
theorem lc_run {O : Addr → Prop} {σ : L2.St} {env : Sls} {n1 : Nat} {Q : VK} {J : It} {H1 : Hp} {ds : List D} {g : TG} {tt : TT} {te : TE} {f : D → List (Nat × D) → Prop} {Tt : TDb} {Te : TD} {vs : List Nat}
    (e : EE0 m O σ H1 env) (s1 : m.St n1 H1) (ok : ItOk O H1 J ds)
    (hg : ∀ O H v d asg, R O H v d → f d asg → ∃ vas, As O H vas asg ∧ ∀ σ Q, Q (sets σ vas) H → g v σ H Q)
    (ht : ∀ O σ H env n Q, EE m.nox O σ H env → m.St n H → Tt env n (OutB m H Q) → tt σ H Q) (mt : ∀ env n K K', (∀ d n, K d n → K' d n) → Tt env n K → Tt env n K')
    (he : ∀ O σ H env n Q, EE m.nox O σ H env → m.St n H → Te env n (Out m O H Q) → te σ H Q) (me : ∀ env n K K', (∀ d n, K d n → K' d n) → Te env n K → Te env n K')
    (I : Nat → List D → Nat → Prop) (i0 : I 0 [] n1)
    (is : ∀ i d acc n2, ds[i]? = some d → acc.length ≤ i → I i acc n2 → ∃ asg, f d asg ∧ (∀ p ∈ asg, p.1 ∈ vs) ∧ Tt (setsE (wipeE env vs) asg) n2 fun b n3 => if b = true then Te (setsE (wipeE env vs) asg) n3 fun y n4 => acc.length < sizeLine ∧ I (i + 1) (acc ++ [y]) n4 else I (i + 1) acc n3)
    (ie : ∀ acc n2, acc.length ≤ ds.length → I ds.length acc n2 → ∀ L xs H', KX m.d H1 H' → m.St n2 H' → H1 L = none → ¬ O L → H' L = some (.lst xs) → Rs (fun a => O a ∨ a = L) H' xs acc → Q (.ref L) H') :
    ∀ L, H1 L = none → ∃ W : Nat → Nat → Hp → Prop, (∃ m, W 0 m (upd H1 L (.lst []))) ∧ ∀ i m H, W i m H →
      (J.stop i H ∧ Q (.ref L) H) ∨ (J.go i H ∧ ∃ Nx : Hp → Prop, (∀ H', Nx H' → ∃ m', m' < m ∧ W (i + 1) m' H') ∧ ∀ x H', J.yld i H x H' → g x (wipe σ vs) H' fun σ2 H2 => wipe σ2 vs = wipe σ vs ∧ tt σ2 H2 fun b H3 =>
        if b = true then te σ2 H3 fun y H4 => ∃ acc, H4 L = some (.lst acc) ∧ acc.length < sizeLine ∧ Nx (upd H4 L (.lst (acc ++ [y]))) else Nx H3) := by
  intro L nL
  obtain ⟨G, Y, wk, hG, hY⟩ := ok
  have nO : ¬ O L := e.new nL
  have ng : ¬ m.g L := fun z => nO (e.gd L z)
  have nd : ¬ m.d L := fun z => ng (m.dg L z)
  -- the heap in a turn
  let P : Nat → Hp → Prop := fun i Hi => ∃ acc da n2, Hi L = some (.lst acc) ∧ Rs (fun a => O a ∨ a = L) Hi acc da ∧ da.length ≤ i ∧ I i da n2 ∧ m.St n2 Hi ∧ ∀ b o, b ≠ L → ¬ m.d b → H1 b = some o → Hi b = some o
  have kx : ∀ {i Hi}, P i Hi → KX O H1 Hi := fun {i Hi} ⟨_, _, _, _, _, _, _, _, k⟩ b o n ee => k b o (ne_of_none ee nL) (fun z => n (e.gd b (m.dg b z))) ee
  have eeL : ∀ {i Hi}, P i Hi → EE0 m (fun a => O a ∨ a = L) σ Hi env := by
    rintro i Hi p
    have k := kx p
    obtain ⟨acc, da, n2, hL, _, _, _, s2, k2⟩ := p
    have kk : ∀ b o, ¬ O b → H1 b = some o → Hi b = some o ∧ ¬ (O b ∨ b = L) := fun b o n ee => ⟨k b o n ee, fun z => z.elim n (ne_of_none ee nL)⟩
    refine ⟨e.len, fun a ha => .inl (e.gd a ha), fun a ha => ?_, fun i d q => ?_, fun i ds q => ?_⟩
    · rcases ha with ha | ha
      · by_cases g : m.g a
        · exact m.old n2 Hi a s2 g
        · cases q : H1 a with
          | none => exact absurd q (e.old a ha)
          | some o => rw [k2 a o (ne_of_none q nL) (fun z => g (m.dg a z)) q]; exact fun z => nomatch z
      · rw [ha, hL]; exact fun z => nomatch z
    · obtain ⟨v, h1, h2⟩ := e.val i d q
      exact ⟨v, h1, h2.keep kk⟩
    · obtain ⟨a, h1, h2, h3, h4⟩ := e.own i ds q
      exact ⟨a, h1, h2.keep kk (fun o z => k2 _ _ (ne_of_none z nL) (fun z => h4 (m.dg a z)) z), .inl h3, h4⟩
  refine lc_it wk P ?_ ?_ ?_ ?_
  · exact ⟨[], [], n1, upd_same, .nil, Nat.le_refl _, i0, st_new s1 nL, fun b o nb _ ee => by rw [upd_ne nb]; exact ee⟩
  · intro i Hi _ p
    exact hG Hi (kx p)
  · intro i x Hi Hj hi p y
    have k := kx p
    have ee := eeL p
    obtain ⟨d, hd, sm, rx⟩ := hY i Hi x Hj hi k y
    obtain ⟨acc, da, n2, hL, ra, la, ia, s2, k2⟩ := p
    have rx' : R (fun a => O a ∨ a = L) Hj x d := rx _ ee.old fun a o n q z => z.elim n (ne_of_none q nL)
    have kxj : KX (fun a => O a ∨ a = L) Hi Hj := fun b o _ q => sm b o q
    have sj : m.St n2 Hj := m.keep n2 Hi Hj s2 fun a o _ q => sm a o q
    have eej : EE0 m (fun a => O a ∨ a = L) σ Hj env := by
      refine ee.kx (fun b o _ q => sm b o q) sj
    obtain ⟨asg, hf, hv, hz⟩ := is i d da n2 hd la ia
    obtain ⟨vas, as, hgo⟩ := hg _ Hj x d asg rx' hf
    refine hgo _ _ ?_
    refine ⟨wipe_sets σ vs vas (fun i hi => ?_), ?_⟩
    · rw [as.fst] at hi
      obtain ⟨p, hp, e2⟩ := List.mem_map.mp hi
      rw [← e2]
      exact hv p hp
    have e3 := ((eej.wipe vs).sets as).nox
    refine ht _ _ Hj _ n2 _ e3 sj (mt _ _ _ _ (fun b n3 z => ?_) hz)
    intro H3 k3 s3
    have hL3 : ∀ {Ha Hb : Hp}, KX m.d Ha Hb → Ha L = some (.lst acc) → Hb L = some (.lst acc) := fun k h => k _ _ nd h
    have hL3' := hL3 k3 (sm _ _ hL)
    have k3' : KX (fun a => O a ∨ a = L) Hj H3 := k3.mono fun a h => .inl (e.gd a (m.dg a h))
    cases b with
    | false =>
      refine iteF ⟨acc, da, n3, hL3', (ra.kx (kxj.trans k3')), by omega, (show I (i + 1) da n3 from z), s3, fun b o nb nd' q => k3 _ _ nd' (sm _ _ (k2 b o nb nd' q))⟩
    | true =>
      refine iteT ?_
      have e4 := e3.kx k3 s3
      refine he _ _ H3 _ n3 _ e4 s3 (me _ _ _ _ (fun y n4 z => ?_) (show Te _ n3 _ from z))
      intro v H4 k4 s4 r4
      have k4' : KX (fun a => O a ∨ a = L) H3 H4 := k4.mono fun a h => .inl (e.gd a (m.dg a h))
      have ra4 := (ra.kx (kxj.trans (k3'.trans k4')))
      refine ⟨acc, hL3 k4 hL3', by rw [ra.length]; exact z.1, acc ++ [v], da ++ [y], n4, upd_same, ?_, by rw [List.length_append]; simp only [List.length_cons, List.length_nil]; omega, z.2, st_put s4 ng (fun f z => by rw [hL3 k4 hL3'] at z; cases z), fun b o nb nd' q => by rw [upd_ne nb]; exact k4 _ _ nd' (k3 _ _ nd' (sm _ _ (k2 b o nb nd' q)))⟩
      exact (ra4.append (.cons r4 .nil)).keep fun b o n q => ⟨by rw [upd_ne (fun z => n (.inr z))]; exact q, n⟩
  · rintro Hn p
    have k := kx p
    obtain ⟨acc, da, n2, hL, ra, la, ia, s2, k2⟩ := p
    refine ie da n2 la ia L acc Hn (fun b o nd' q => ?_) s2 nL nO hL ra
    exact k2 b o (ne_of_none q nL) nd' q
theorem v_lc {elt tg iter : Expr} {ifs : List Expr} {scope : Scope} {own : List (Str × Nat)} {pos : Pos} {It : TDi} {g : TG} {f : D → List (Nat × D) → Prop} {Tt : TDb} {Te : TD} (hc : X.calm = true) (hN : X.N.Nodup) (hi : IV X m tg iter It) (ok : BlkOk X.N X.env.scope scope own)
    (hg : ∀ (s : Shared) (H : Hp) (C : Addr) (cl : List (Str × Addr)) (fp : List Addr), TV (X.blk s H scope (compEnvC scope cl C X.env) fp) tg g f) (ht : ∀ (s : Shared) (H : Hp) (C : Addr) (cl : List (Str × Addr)) (fp : List Addr), QV (X.blk s H scope (compEnvC scope cl C X.env) fp) m.nox ifs Tt)
    (he : ∀ (s : Shared) (H : Hp) (C : Addr) (cl : List (Str × Addr)) (fp : List Addr), EV (X.blk s H scope (compEnvC scope cl C X.env) fp) m.nox elt Te) (hs : ∀ x, foldedSetIterable iter X.env x = pure x := by intro _; rfl) :
    EV X m (.ListComp elt [⟨tg, iter, ifs, 0⟩] scope pos) (tLcD It f Tt Te (own.map (·.2))) := by
  obtain ⟨wi, pi, hwi⟩ := hi.ex
  have mt : ∀ env n K K', (∀ d n, K d n → K' d n) → Tt env n K → Tt env n K' := (ht X.s_0 (fun _ => none) 0 [] []).mono
  have me : ∀ env n K K', (∀ d n, K d n → K' d n) → Te env n K → Te env n K' := (he X.s_0 (fun _ => none) 0 [] []).mono
  refine ⟨fun env n K K' hk q => hi.mono _ _ _ _ (fun ds n1 ⟨I, a, b, c⟩ => ⟨I, a, b, fun acc n2 l i => hk _ _ (c acc n2 l i)⟩) q, _, pe_lc hc hN pi ok
    (g := g) (tt := fun σ H Q => ∀ s H' C cl fp, Classical.choose (ht s H' C cl fp).ex σ H Q) (te := fun σ H Q => ∀ s H' C cl fp, Classical.choose (he s H' C cl fp).ex σ H Q)
    (fun s H C cl fp => (hg s H C cl fp).pg) (fun s H C cl fp => PTs.imp (Classical.choose_spec (ht s H C cl fp).ex).1 fun σ H' Q h => h s H C cl fp)
    (fun s H C cl fp => PE.imp (Classical.choose_spec (he s H C cl fp).ex).1 fun σ H' Q h => h s H C cl fp) hs, fun O σ H env n Q e s q => ?_⟩
  refine hwi O σ H env n _ e s (hi.mono _ _ _ _ (fun ds n1 ⟨I, i0, is, ie⟩ => ?_) q)
  intro J H1 k1 s1 ok1
  exact lc_run (e.toEE0.kx k1 s1) s1 ok1 (fun O2 H2 v d asg r hf => (hg X.s_0 (fun _ => none) 0 [] []).run O2 H2 v d asg r hf) (fun O2 σ2 H2 env2 n2 Q2 e2 s2 q2 s' H' C cl fp => (Classical.choose_spec (ht s' H' C cl fp).ex).2 O2 σ2 H2 env2 n2 Q2 e2 s2 q2) mt
    (fun O2 σ2 H2 env2 n2 Q2 e2 s2 q2 s' H' C cl fp => (Classical.choose_spec (he s' H' C cl fp).ex).2 O2 σ2 H2 env2 n2 Q2 e2 s2 q2) me I i0 is (fun acc n2 l i L xs H' k2 s2 _ nO hL rs => out_trans k1 (ie acc n2 l i) _ H' k2 s2 (.lst nO hL (rs.keep fun b o n q => ⟨q, fun z => n (.inl z)⟩)))
/-! ### an expression that makes a list of one's own -/
def FOut (m : Md) (O : Addr → Prop) (H : Hp) (Q : VK) : List D → Nat → Prop := fun ds n => ∀ a xs H', KX m.d H H' → m.St n H' → H a = none → ¬ O a → H' a = some (.lst xs) → Rs (fun b => O b ∨ b = a) H' xs ds → Q (.ref a) H'
structure FV (X : Cx) (m : Md) (e : Expr) (T : TDs) : Prop where
  mono : ∀ env n K K', (∀ d n, K d n → K' d n) → T env n K → T env n K'
  ex : ∃ t, PE X e t ∧ ∀ O σ H env n Q, EE m O σ H env → m.St n H → T env n (FOut m O H Q) → t σ H Q
theorem kx_none {d : Addr → Prop} {H H1 : Hp} (k : KX d H H1) {a : Addr} (nd : ¬ d a) (h : H1 a = none) : H a = none := by
  cases q : H a with
  | none => rfl
  | some o => rw [k a o nd q] at h; cases h
theorem f_lst {es : List Expr} {Ts : TDs} {pos} (a : AV X m es Ts) : FV X m (.List es pos) (fun env n K => Ts env n fun xs n1 => xs.length ≤ sizeLine ∧ K xs n1) := by
  obtain ⟨ta, pa, ha⟩ := a.ex
  refine ⟨fun env n K K' h q => a.mono _ _ _ _ (fun x n1 q => ⟨q.1, h _ _ q.2⟩) q, _, pe_lst pa, fun O σ H env n Q e s q => ?_⟩
  refine ha O σ H env n _ e s (a.mono _ _ _ _ (fun xs n1 q => ?_) q)
  intro vs H1 k1 s1 r1
  refine ⟨by rw [r1.length]; exact q.1, fun p hp => ?_⟩
  have e1 := e.kx k1 s1
  have nO := e1.new hp
  exact q.2 p vs _ (k1.trans (KX.new hp)) (st_new s1 hp) (kx_none k1 (fun z => nO (e.gd p (m.dg p z))) hp) nO upd_same (r1.keep fun b o n h => ⟨by rw [upd_ne (ne_of_none h hp)]; exact h, fun z => z.elim n (ne_of_none h hp)⟩)
def fLcD (It : TDi) (f : D → List (Nat × D) → Prop) (Tt : TDb) (Te : TD) (vs : List Nat) : TDs := fun env n K => It env n fun ds n1 => ∃ I : Nat → List D → Nat → Prop, I 0 [] n1 ∧
  (∀ i d acc n2, ds[i]? = some d → acc.length ≤ i → I i acc n2 → ∃ asg, f d asg ∧ (∀ p ∈ asg, p.1 ∈ vs) ∧ Tt (setsE (wipeE env vs) asg) n2 fun b n3 => if b = true then Te (setsE (wipeE env vs) asg) n3 fun y n4 => acc.length < sizeLine ∧ I (i + 1) (acc ++ [y]) n4 else I (i + 1) acc n3) ∧
  ∀ acc n2, acc.length ≤ ds.length → I ds.length acc n2 → K acc n2
theorem f_lc {elt tg iter : Expr} {ifs : List Expr} {scope : Scope} {own : List (Str × Nat)} {pos : Pos} {It : TDi} {g : TG} {f : D → List (Nat × D) → Prop} {Tt : TDb} {Te : TD} (hc : X.calm = true) (hN : X.N.Nodup) (hi : IV X m tg iter It) (ok : BlkOk X.N X.env.scope scope own)
    (hg : ∀ (s : Shared) (H : Hp) (C : Addr) (cl : List (Str × Addr)) (fp : List Addr), TV (X.blk s H scope (compEnvC scope cl C X.env) fp) tg g f) (ht : ∀ (s : Shared) (H : Hp) (C : Addr) (cl : List (Str × Addr)) (fp : List Addr), QV (X.blk s H scope (compEnvC scope cl C X.env) fp) m.nox ifs Tt)
    (he : ∀ (s : Shared) (H : Hp) (C : Addr) (cl : List (Str × Addr)) (fp : List Addr), EV (X.blk s H scope (compEnvC scope cl C X.env) fp) m.nox elt Te) (hs : ∀ x, foldedSetIterable iter X.env x = pure x := by intro _; rfl) :
    FV X m (.ListComp elt [⟨tg, iter, ifs, 0⟩] scope pos) (fLcD It f Tt Te (own.map (·.2))) := by
  obtain ⟨wi, pi, hwi⟩ := hi.ex
  have mt : ∀ env n K K', (∀ d n, K d n → K' d n) → Tt env n K → Tt env n K' := (ht X.s_0 (fun _ => none) 0 [] []).mono
  have me : ∀ env n K K', (∀ d n, K d n → K' d n) → Te env n K → Te env n K' := (he X.s_0 (fun _ => none) 0 [] []).mono
  refine ⟨fun env n K K' hk q => hi.mono _ _ _ _ (fun ds n1 ⟨I, a, b, c⟩ => ⟨I, a, b, fun acc n2 l i => hk _ _ (c acc n2 l i)⟩) q, _, pe_lc hc hN pi ok
    (g := g) (tt := fun σ H Q => ∀ s H' C cl fp, Classical.choose (ht s H' C cl fp).ex σ H Q) (te := fun σ H Q => ∀ s H' C cl fp, Classical.choose (he s H' C cl fp).ex σ H Q)
    (fun s H C cl fp => (hg s H C cl fp).pg) (fun s H C cl fp => PTs.imp (Classical.choose_spec (ht s H C cl fp).ex).1 fun σ H' Q h => h s H C cl fp)
    (fun s H C cl fp => PE.imp (Classical.choose_spec (he s H C cl fp).ex).1 fun σ H' Q h => h s H C cl fp) hs, fun O σ H env n Q e s q => ?_⟩
  refine hwi O σ H env n _ e s (hi.mono _ _ _ _ (fun ds n1 ⟨I, i0, is, ie⟩ => ?_) q)
  intro J H1 k1 s1 ok1
  exact lc_run (e.toEE0.kx k1 s1) s1 ok1 (fun O2 H2 v d asg r hf => (hg X.s_0 (fun _ => none) 0 [] []).run O2 H2 v d asg r hf) (fun O2 σ2 H2 env2 n2 Q2 e2 s2 q2 s' H' C cl fp => (Classical.choose_spec (ht s' H' C cl fp).ex).2 O2 σ2 H2 env2 n2 Q2 e2 s2 q2) mt
    (fun O2 σ2 H2 env2 n2 Q2 e2 s2 q2 s' H' C cl fp => (Classical.choose_spec (he s' H' C cl fp).ex).2 O2 σ2 H2 env2 n2 Q2 e2 s2 q2) me I i0 is
    (fun acc n2 l i L xs H' k2 s2 nL nO hL rs => ie acc n2 l i L xs H' (k1.trans k2) s2 (kx_none k1 (fun z => nO (e.gd L (m.dg L z))) nL) nO hL rs)
/-- list(x) -/
theorem f_list {x : Str} {p pos : Pos} {e : Expr} {Ta : TD} (a : EV X m e Ta) (hg : Gl X x) (hm : X.mg x = none) (hv : bootBuiltins x = some (.type "list")) (hn : x ≠ "__name__" := by decide) (hdb : (x == ("__debug__" : Str)) = false := by decide) (hs1 : starEach (e :: []) X.env = (false, eval e X.env) :: starEach [] X.env := by rfl) (hpl : (backTo pos (starEach [] X.env)).any (·.1) = false := by rfl) :
    FV X m (.Call (.Name x p) [e] [] pos) (fun env n K => Ta env n fun d n1 => ∃ l, (d = .lst l ∨ d = .tup l) ∧ K l n1) := by
  obtain ⟨ta, pa, h⟩ := a.ex
  refine ⟨fun env n K K' hk q => a.mono _ _ _ _ (fun x n1 ⟨l, z, q⟩ => ⟨l, z, hk _ _ q⟩) q, _, pe_callTy call_list_of hg hm hv (pa_cons pa pa_nil hs1) hn hdb hs1 hpl, fun O σ H env n Q e s q => ?_⟩
  refine h O σ H env n _ e s (a.mono _ _ _ _ (fun d n1 ⟨l, z, q⟩ => ?_) q)
  intro v H1 k1 s1 r1
  have e1 := e.kx k1 s1
  have go : ∀ {xs : List V}, Rs O H1 xs l → ∀ p, H1 p = none → Q (.ref p) (upd H1 p (.lst xs)) := fun {xs} rs p hp => by
    have nO := e1.new hp
    exact q p xs _ (k1.trans (KX.new hp)) (st_new s1 hp) (kx_none k1 (fun z => nO (e.gd p (m.dg p z))) hp) nO upd_same (rs.keep fun b o n h => ⟨by rw [upd_ne (ne_of_none h hp)]; exact h, fun z => z.elim n (ne_of_none h hp)⟩)
  rcases z with z | z
  · subst z
    cases r1 with
    | lst n1 h1 rs => exact ⟨_, _, rfl, .inl (.inl (.inl h1)), fun p hp => go rs p hp⟩
  · subst z
    cases r1 with
    | tup n1 h1 rs => exact ⟨_, _, rfl, .inr (.inl (.inl h1)), fun p hp => go rs p hp⟩
end
end DL

set_option Elab.async false
set_option linter.all false
set_option maxRecDepth 100000
set_option maxHeartbeats 1000000
namespace DL
open PySem L2
/-! ### built-ins over data -/
theorem ints_of {O : Addr → Prop} {H : Hp} : ∀ {vs : List V} {ns : List Int}, Rs O H vs (ns.map D.int) → vs = ns.map V.int
  | _, [], .nil => rfl
  | _, n :: r, .cons a s => by
    rw [List.map_cons, ← ints_of s]
    cases a
    rfl
theorem bools_of {O : Addr → Prop} {H : Hp} : ∀ {vs : List V} {ns : List Bool}, Rs O H vs (ns.map D.bl) → vs = ns.map V.bl
  | _, [], .nil => rfl
  | _, n :: r, .cons a s => by
    rw [List.map_cons, ← bools_of s]
    cases a
    rfl
theorem strs_of {O : Addr → Prop} {H : Hp} : ∀ {vs : List V} {ns : List Str}, Rs O H vs (ns.map D.str) → vs = ns.map V.str
  | _, [], .nil => rfl
  | _, n :: r, .cons a s => by
    rw [List.map_cons, ← strs_of s]
    cases a
    rfl
abbrev CD := List D → (D → Prop) → Prop
def cLen : CD := fun xs K => ∃ l, (xs = [.lst l] ∨ xs = [.tup l]) ∧ K (.int l.length)
theorem k_len {KK : PySem.W.Frag} : CallD (fun xs H Q => ∃ p ys, xs = [.ref p] ∧ (SqL KK H p ys ∨ SqT KK H p ys) ∧ Q (.int ys.length) H) cLen where
  mono := fun xs K K' h ⟨l, a, k⟩ => ⟨l, a, h _ k⟩
  run := fun m O H n vs xs Q gd old s r ⟨l, a, k⟩ => by
    rcases a with a | a
    · subst a
      cases r with
      | cons r1 r2 =>
        cases r2
        cases r1 with
        | lst n1 h1 s1 => exact ⟨_, _, rfl, .inl (.inl (.inl h1)), by rw [s1.length]; exact k _ H KX.refl s (.int _)⟩
    · subst a
      cases r with
      | cons r1 r2 =>
        cases r2
        cases r1 with
        | tup n1 h1 s1 => exact ⟨_, _, rfl, .inr (.inl (.inl h1)), by rw [s1.length]; exact k _ H KX.refl s (.int _)⟩
def cLenS : CD := fun xs K => ∃ z, xs = [.str z] ∧ z.length ≤ sizeLine ∧ K (.int z.length)
theorem k_lenS : CallD (fun xs H Q => ∃ z, xs = [.str z] ∧ z.length ≤ sizeLine ∧ Q (.int z.length) H) cLenS where
  mono := fun xs K K' h ⟨l, a, b, k⟩ => ⟨l, a, b, h _ k⟩
  run := fun m O H n vs xs Q gd old s r ⟨z, a, b, k⟩ => by
    subst a
    cases r with
    | cons r1 r2 =>
      cases r2
      cases r1
      exact ⟨z, rfl, b, k _ H KX.refl s (.int _)⟩
def cAbs : CD := fun xs K => ∃ i, xs = [.int i] ∧ K (.int (if i < 0 then -i else i))
theorem k_abs : CallD (fun xs H Q => ∃ i, xs = [.int i] ∧ Q (.int (if i < 0 then -i else i)) H) cAbs where
  mono := fun xs K K' h ⟨l, a, k⟩ => ⟨l, a, h _ k⟩
  run := fun m O H n vs xs Q gd old s r ⟨z, a, k⟩ => by
    subst a
    cases r with
    | cons r1 r2 =>
      cases r2
      cases r1
      exact ⟨z, rfl, k _ H KX.refl s (.int _)⟩
def cMax : CD := fun xs K => ∃ i j, xs = [.int i, .int j] ∧ K (.int (if j > i then j else i))
theorem k_max : CallD (fun xs H Q => ∃ i j, xs = [.int i, .int j] ∧ Q (.int (if j > i then j else i)) H) cMax where
  mono := fun xs K K' h ⟨l, j, a, k⟩ => ⟨l, j, a, h _ k⟩
  run := fun m O H n vs xs Q gd old s r ⟨z, j, a, k⟩ => by
    subst a
    cases r with
    | cons r1 r2 =>
      cases r2 with
      | cons r2 r3 =>
        cases r3
        cases r1
        cases r2
        exact ⟨z, j, rfl, k _ H KX.refl s (.int _)⟩
def cMin : CD := fun xs K => ∃ i j, xs = [.int i, .int j] ∧ K (.int (if j < i then j else i))
theorem k_min : CallD (fun xs H Q => ∃ i j, xs = [.int i, .int j] ∧ Q (.int (if j < i then j else i)) H) cMin where
  mono := fun xs K K' h ⟨l, j, a, k⟩ => ⟨l, j, a, h _ k⟩
  run := fun m O H n vs xs Q gd old s r ⟨z, j, a, k⟩ => by
    subst a
    cases r with
    | cons r1 r2 =>
      cases r2 with
      | cons r2 r3 =>
        cases r3
        cases r1
        cases r2
        exact ⟨z, j, rfl, k _ H KX.refl s (.int _)⟩
def cSum : CD := fun xs K => ∃ ns : List Int, xs = [.lst (ns.map D.int)] ∧ K (.int ns.sum)
theorem k_sum {KK : PySem.W.Frag} : CallD (rSum KK) cSum where
  mono := fun xs K K' h ⟨l, a, k⟩ => ⟨l, a, h _ k⟩
  run := fun m O H n vs xs Q gd old s r ⟨z, a, k⟩ => by
    subst a
    cases r with
    | cons r1 r2 =>
      cases r2
      cases r1 with
      | lst n1 h1 s1 =>
        rw [ints_of s1] at h1
        exact ⟨_, z, rfl, .inl (.inl h1), k _ H KX.refl s (.int _)⟩
def cAll : CD := fun xs K => ∃ ns : List Bool, xs = [.lst (ns.map D.bl)] ∧ K (.bl (ns.all id))
theorem k_all {KK : PySem.W.Frag} : CallD (rAll KK) cAll where
  mono := fun xs K K' h ⟨l, a, k⟩ => ⟨l, a, h _ k⟩
  run := fun m O H n vs xs Q gd old s r ⟨z, a, k⟩ => by
    subst a
    cases r with
    | cons r1 r2 =>
      cases r2
      cases r1 with
      | lst n1 h1 s1 =>
        rw [bools_of s1] at h1
        exact ⟨_, z, rfl, .inl (.inl h1), k _ H KX.refl s (.bl _)⟩
def cAny : CD := fun xs K => ∃ ns : List Bool, xs = [.lst (ns.map D.bl)] ∧ K (.bl (ns.any id))
theorem k_any {KK : PySem.W.Frag} : CallD (rAny KK) cAny where
  mono := fun xs K K' h ⟨l, a, k⟩ => ⟨l, a, h _ k⟩
  run := fun m O H n vs xs Q gd old s r ⟨z, a, k⟩ => by
    subst a
    cases r with
    | cons r1 r2 =>
      cases r2
      cases r1 with
      | lst n1 h1 s1 =>
        rw [bools_of s1] at h1
        exact ⟨_, z, rfl, .inl (.inl h1), k _ H KX.refl s (.bl _)⟩
def cInt : CD := fun xs K => (∃ i, xs = [.int i] ∧ K (.int i)) ∨ ∃ b, xs = [.bl b] ∧ K (.int (if b then 1 else 0))
theorem k_int : CallD (fun xs H Q => (∃ i, xs = [.int i] ∧ Q (.int i) H) ∨ ∃ k, xs = [.bl k] ∧ Q (.int (if k then 1 else 0)) H) cInt where
  mono := fun xs K K' h q => q.elim (fun ⟨i, a, k⟩ => .inl ⟨i, a, h _ k⟩) fun ⟨i, a, k⟩ => .inr ⟨i, a, h _ k⟩
  run := fun m O H n vs xs Q gd old s r q => by
    rcases q with ⟨i, a, k⟩ | ⟨i, a, k⟩
    · subst a
      cases r with
      | cons r1 r2 =>
        cases r2
        cases r1
        exact .inl ⟨_, rfl, k _ H KX.refl s (.int _)⟩
    · subst a
      cases r with
      | cons r1 r2 =>
        cases r2
        cases r1
        exact .inr ⟨_, rfl, k _ H KX.refl s (.int _)⟩
def cStrI : CD := fun xs K => ∃ i, xs = [.int i] ∧ i.natAbs.log2 < 1920 ∧ K (.str (toString i))
theorem k_strI : CallD (fun xs H Q => ∃ i, xs = [.int i] ∧ i.natAbs.log2 < 1920 ∧ Q (.str (toString i)) H) cStrI where
  mono := fun xs K K' h ⟨l, a, b, k⟩ => ⟨l, a, b, h _ k⟩
  run := fun m O H n vs xs Q gd old s r ⟨z, a, b, k⟩ => by
    subst a
    cases r with
    | cons r1 r2 =>
      cases r2
      cases r1
      exact ⟨z, rfl, b, k _ H KX.refl s (.str _)⟩
def cList : CD := fun xs K => ∃ l, (xs = [.lst l] ∨ xs = [.tup l]) ∧ K (.lst l)
theorem k_list {KK : PySem.W.Frag} : CallD (fun xs H Q => ∃ p ys, xs = [.ref p] ∧ (SqL KK H p ys ∨ SqT KK H p ys) ∧ ∀ l, H l = none → Q (.ref l) (upd H l (.lst ys))) cList where
  mono := fun xs K K' h ⟨l, a, k⟩ => ⟨l, a, h _ k⟩
  run := fun m O H n vs xs Q gd old s r ⟨l, a, k⟩ => by
    rcases a with a | a
    · subst a
      cases r with
      | cons r1 r2 =>
        cases r2
        cases r1 with
        | lst n1 h1 s1 => exact ⟨_, _, rfl, .inl (.inl (.inl h1)), fun p hp => out_new k s hp (r_lst hp (new_free old hp) s1)⟩
    · subst a
      cases r with
      | cons r1 r2 =>
        cases r2
        cases r1 with
        | tup n1 h1 s1 => exact ⟨_, _, rfl, .inr (.inl (.inl h1)), fun p hp => out_new k s hp (r_lst hp (new_free old hp) s1)⟩
def cTuple : CD := fun xs K => ∃ l, (xs = [.lst l] ∨ xs = [.tup l]) ∧ K (.tup l)
theorem k_tuple {KK : PySem.W.Frag} : CallD (fun xs H Q => ∃ p ys, xs = [.ref p] ∧ ((SqL KK H p ys ∧ ∀ l, H l = none → Q (.ref l) (upd H l (.tup ys))) ∨ (SqT KK H p ys ∧ Q (.ref p) H))) cTuple where
  mono := fun xs K K' h ⟨l, a, k⟩ => ⟨l, a, h _ k⟩
  run := fun m O H n vs xs Q gd old s r ⟨l, a, k⟩ => by
    rcases a with a | a
    · subst a
      cases r with
      | cons r1 r2 =>
        cases r2
        cases r1 with
        | lst n1 h1 s1 => exact ⟨_, _, rfl, .inl ⟨.inl (.inl h1), fun p hp => out_new k s hp (r_tup hp (new_free old hp) s1)⟩⟩
    · subst a
      cases r with
      | cons r1 r2 =>
        cases r2
        cases id r1 with
        | tup n1 h1 s1 => exact ⟨_, _, rfl, .inr ⟨.inl (.inl h1), k _ H KX.refl s r1⟩⟩
/-! isinstance -/
def tyN : D → Option String
  | .non => some "NoneType"
  | .bl _ => some "bool"
  | .int _ => some "int"
  | .str _ => some "str"
  | .lst _ => some "list"
  | .tup _ => some "tuple"
  | .dic _ => some "dict"
  | _ => none
theorem ty_of {KK : PySem.W.Frag} {O : Addr → Prop} {H : Hp} {v : V} {x : D} {t : String} (r : R O H v x) (h : tyN x = some t) : TyX KK H v (.type t) := by
  cases r with
  | non => cases h; exact .base .non
  | bl b => cases h; exact .base (.bl b)
  | int b => cases h; exact .base (.int b)
  | str b => cases h; exact .base (.str b)
  | ptr a => cases h
  | ty s => cases h
  | lst n e s => cases h; exact .base (.lst e)
  | tup n e s => cases h; exact .base (.tup e)
  | dic n e s => cases h; exact .base (.dK e)
  | obj n e s => cases h
  | exc n e s => cases h
  | exv n e n2 e2 s => cases h
  | exn n e => cases h
def cIsi : CD := fun xs K => ∃ x s t b, xs = [x, .ty s] ∧ tyN x = some t ∧ kitB t s = some b ∧ K (.bl b)
theorem k_isi {KK : PySem.W.Frag} : CallD (rIsi KK) cIsi where
  mono := fun xs K K' h ⟨x, s, t, b, a, c, d, k⟩ => ⟨x, s, t, b, a, c, d, h _ k⟩
  run := fun m O H n vs xs Q gd old st r ⟨x, s, t, b, a, c, d, k⟩ => by
    subst a
    cases r with
    | cons r1 r2 =>
      cases r2 with
      | cons r2 r3 =>
        cases r3
        cases r2
        exact ⟨_, _, _, _, b, rfl, .ty s, ty_of r1 c, kit_ty d, k _ H KX.refl st (.bl _)⟩
/-- one of two built-in classes -/
def cIsi2 : CD := fun xs K => ∃ x s1 s2 t b1 b2, xs = [x, .tup [.ty s1, .ty s2]] ∧ tyN x = some t ∧ kitB t s1 = some b1 ∧ kitB t s2 = some b2 ∧ K (.bl (b1 || b2))
theorem k_isi2 {KK : PySem.W.Frag} : CallD (rIsiT KK) cIsi2 where
  mono := fun xs K K' h ⟨x, s, s2, t, b, b2, a, c, d, e, k⟩ => ⟨x, s, s2, t, b, b2, a, c, d, e, h _ k⟩
  run := fun m O H n vs xs Q gd old st r ⟨x, s, s2, t, b, b2, a, c, d, e, k⟩ => by
    subst a
    cases r with
    | cons r1 r2 =>
      cases r2 with
      | cons r2 r3 =>
        cases r3
        cases r2 with
        | tup n1 h1 q1 =>
          cases q1 with
          | cons q1 q2 =>
            cases q2 with
            | cons q2 q3 =>
              cases q3
              cases q1
              cases q2
              refine ⟨_, _, _, _, _, (b || b2), rfl, h1, .cons (.ty s) (.cons (.ty s2) .nil), ty_of r1 c, ?_, k _ H KX.refl st (.bl _)⟩
              refine kitAny_cons (kit_ty d) (fun hb => ?_) (fun hb => by rw [hb]; rfl)
              rw [hb, Bool.false_or]
              refine kitAny_cons (kit_ty e) (fun hb => ?_) (fun hb => hb)
              rw [hb]
              rfl
/-! ### promises over data -/
abbrev FT := List D → Nat → DK → Prop
def FMono (T : FT) : Prop := ∀ ds n K K', (∀ d n, K d n → K' d n) → T ds n K → T ds n K'
def spM (m : Md) (T : FT) : Sp := fun vs H Q _ => ∃ ds O n, Rs O H vs ds ∧ (∀ a, m.g a → O a) ∧ (∀ a, O a → H a ≠ none) ∧ m.St n H ∧ T ds n (Out m O H Q)
def spP (T : CD) : Sp := fun vs H Q _ => ∃ ds O, Rs O H vs ds ∧ (∀ a, O a → H a ≠ none) ∧ T ds (fun d => ∀ v H', Same H H' → R O H' v d → Q v H')
def lift (T : CD) : FT := fun ds n K => T ds fun d => K d n
def CMono (T : CD) : Prop := ∀ ds K K', (∀ d, K d → K' d) → T ds K → T ds K'
theorem CMono.lift {T : CD} (h : CMono T) : FMono (DL.lift T) := fun ds n K K' k q => h ds _ _ (fun d z => k d n z) q
theorem sp_pure {T : CD} (hm : CMono T) {m : Md} : ∀ vs H Q E, spM m (lift T) vs H Q E → spP T vs H Q E := fun vs H Q E ⟨ds, O, n, r, gd, old, s, t⟩ =>
  ⟨ds, O, r, old, hm _ _ _ (fun d o v H' sm r => o v H' (fun b u _ e => sm b u e) (m.keep n H H' s fun a u _ e => sm a u e) r) t⟩
theorem FnOk.pure {P : Program} {w : World} {K : PySem.W.Frag} {mg : Str → Option Value} {base : Heap} {CX : CXT} {k : Nat} {f : Addr} {fd : FuncData} {ps : List Str} {T : CD} (F : FnOk P w K mg base CX k f fd ps (spP T)) (hm : CMono T) (m : Md) : FnOk P w K mg base CX k f fd ps (spM m (lift T)) := F.imp (sp_pure hm)
section
variable {X : Cx} {m : Md}
def tCallM (T : FT) (Ts : TDs) : TD := fun env n K => Ts env n fun xs n1 => T xs n1 K
theorem call_q {T : FT} {O : Addr → Prop} {σ : L2.St} {H H1 : Hp} {env : Sls} {n1 : Nat} {vs : List V} {xs : List D} {Q : VK} {E : XK} (hm : FMono T) (e : EE m O σ H1 env) (k : KX m.d H H1) (s : m.St n1 H1) (r : Rs O H1 vs xs) (q : T xs n1 (Out m O H Q)) : spM m T vs H1 Q E :=
  ⟨xs, O, n1, r, e.gd, e.old, s, hm _ _ _ _ (fun d n o => out_trans k o) q⟩
theorem v_call {k : Nat} {f : Addr} {fd : FuncData} {ps : List Str} {T : FT} {x : Str} {p pos : Pos} {e : Expr} {es : List Expr} {Ts : TDs} (F : FnOk X.prog X.w X.K X.mg X.base CX0 k f fd ps (spM m T)) (hm : FMono T) (hr : Room k X.A) (hg : Gl X x) (hmg : X.mg x = some (.ref f)) (hk : PySem.W.keepIn X.K (.ref f) = true) (hb : Binds X.K fd ps []) (a : AV X m (e :: es) Ts)
    (hdb : (x == ("__debug__" : Str)) = false := by decide) (he : starEach (e :: es) X.env = (false, eval e X.env) :: starEach es X.env := by rfl) (hpl : (backTo pos (starEach es X.env)).any (·.1) = false := by rfl) : EV X m (.Call (.Name x p) (e :: es) [] pos) (tCallM T Ts) := by
  obtain ⟨t, pa, h⟩ := a.ex
  refine ⟨fun env n K K' hk q => a.mono _ _ _ _ (fun xs n1 q => hm _ _ _ _ hk q) q, _, pe_call F hr hg hmg hk hb .nil pass0 pa hdb he hpl, fun O σ H env n Q e s q => ?_⟩
  refine h O σ H env n _ e s (a.mono _ _ _ _ (fun xs n1 q => ?_) q)
  intro vs H1 k1 s1 r1
  rw [List.append_nil]
  exact call_q hm (e.kx k1 s1) k1 s1 r1 q
theorem v_call0 {k : Nat} {f : Addr} {fd : FuncData} {ps : List Str} {T : FT} {x : Str} {p pos : Pos} (F : FnOk X.prog X.w X.K X.mg X.base CX0 k f fd ps (spM m T)) (hm : FMono T) (hr : Room k X.A) (hg : Gl X x) (hmg : X.mg x = some (.ref f)) (hk : PySem.W.keepIn X.K (.ref f) = true) (hb : Binds X.K fd ps [])
    (hdb : (x == ("__debug__" : Str)) = false := by decide) : EV X m (.Call (.Name x p) [] [] pos) (fun _ n K => T [] n K) :=
  ⟨fun env n K K' hk q => hm _ _ _ _ hk q, _, pe_call0 F hr hg hmg hk hb .nil pass0 hdb, fun O σ H env n Q e s q => call_q (vs := []) (E := E0) hm e KX.refl s .nil q⟩
/-- o.m(e, ..) -/
def tMethD (C : Addr) (mn : Str) (T : FT) (Ta : TD) (Ts : TDs) : TD := fun env n K => Ta env n fun d n1 => ∃ l, d = .obj C l ∧ l.lookup mn = none ∧ Ts env n1 fun xs n2 => T (d :: xs) n2 K
theorem v_meth {C : Addr} {mn : Str} {k : Nat} {f : Addr} {fd : FuncData} {ps : List Str} {T : FT} {o e : Expr} {es : List Expr} {Ta : TD} {Ts : TDs} {apos pos : Pos} (a : EV X m o Ta) (c : Cls X.K C) (hmt : Meth X.K C mn f) (F : FnOk X.prog X.w X.K X.mg X.base CX0 k f fd ps (spM m T)) (hm : FMono T) (hr : Room k X.A) (hb : Binds X.K fd ps []) (b : AV X m (e :: es) Ts)
    (hx : ∀ {t u : TA} {ta : TE}, PE X o ta → PA X (e :: es) t → PE X (.Call (.Attribute o mn apos) (e :: es) [] pos) (tMeth C mn (spM m T) [] E0 ta t)) : EV X m (.Call (.Attribute o mn apos) (e :: es) [] pos) (tMethD C mn T Ta Ts) := by
  obtain ⟨ta, po, ho⟩ := a.ex
  obtain ⟨t, pa, h⟩ := b.ex
  refine ⟨fun env n K K' hk q => a.mono _ _ _ _ (fun d n1 ⟨l, e1, e2, q⟩ => ⟨l, e1, e2, b.mono _ _ _ _ (fun xs n2 q => hm _ _ _ _ hk q) q⟩) q, _, hx (u := t) po pa, fun O σ H env n Q e s q => ?_⟩
  refine ho O σ H env n _ e s (a.mono _ _ _ _ (fun d n1 ⟨l, e1, e2, q⟩ => ?_) q)
  intro v H1 k1 s1 r1
  subst e1
  cases id r1 with
  | obj n0 h0 s0 =>
    refine ⟨_, _, _, rfl, h0, s0.none e2, ?_⟩
    have e1 := e.kx k1 s1
    refine h O σ H1 env n1 _ e1 s1 (b.mono _ _ _ _ (fun xs n2 q => ?_) q)
    intro vs H2 k2 s2 r2
    rw [List.append_nil]
    exact call_q hm (e1.kx k2 s2) (k1.trans k2) s2 (.cons (r1.kx (k2.mono fun x h => e.gd x (m.dg x h))) r2) q
/-- e.f, a property -/
def tPropD (C : Addr) (f : Str) (T : FT) (Ta : TD) : TD := fun env n K => Ta env n fun d n1 => ∃ l, d = .obj C l ∧ T [d] n1 K
theorem v_prop {C : Addr} {f : Str} {p g : Addr} {k : Nat} {fd : FuncData} {ps : List Str} {T : FT} {o : Expr} {Ta : TD} {pos : Pos} (a : EV X m o Ta) (c : Cls X.K C) (hp : PropOf X.K C f p g) (F : FnOk X.prog X.w X.K X.mg X.base CX0 k g fd ps (spM m T)) (hm : FMono T) (hr : Room (k + 1) X.A) (hb : Binds X.K fd ps [])
    (hab : attributeBase o f X.env (eval o X.env) = eval o X.env := by rfl) : EV X m (.Attribute o f pos) (tPropD C f T Ta) := by
  obtain ⟨ta, po, ho⟩ := a.ex
  refine ⟨fun env n K K' hk q => a.mono _ _ _ _ (fun d n1 ⟨l, e1, q⟩ => ⟨l, e1, hm _ _ _ _ hk q⟩) q, _, pe_prop po c hp F hr hb .nil pass0 hab, fun O σ H env n Q e s q => ?_⟩
  refine ho O σ H env n _ e s (a.mono _ _ _ _ (fun d n1 ⟨l, e1, q⟩ => ?_) q)
  intro v H1 k1 s1 r1
  subst e1
  cases id r1 with
  | obj n0 h0 s0 => exact ⟨_, _, _, rfl, h0, call_q hm (e.kx k1 s1) k1 s1 (.cons r1 .nil) q⟩
/-- e.f, an attribute -/
def tFldD (C : Addr) (f : Str) (Ta : TD) : TD := fun env n K => Ta env n fun d n1 => ∃ l v, d = .obj C l ∧ l.lookup f = some v ∧ K v n1
theorem v_fld {C : Addr} {f : Str} {o : Expr} {Ta : TD} {pos : Pos} (a : EV X m o Ta) (c : Cls X.K C) (na : NoAttr X.K C f) (hab : attributeBase o f X.env (eval o X.env) = eval o X.env := by rfl) : EV X m (.Attribute o f pos) (tFldD C f Ta) := by
  obtain ⟨ta, po, ho⟩ := a.ex
  refine ⟨fun env n K K' hk q => a.mono _ _ _ _ (fun d n1 ⟨l, v, e1, e2, q⟩ => ⟨l, v, e1, e2, hk _ _ q⟩) q, _, pe_fld po hab, fun O σ H env n Q e s q => ?_⟩
  refine ho O σ H env n _ e s (a.mono _ _ _ _ (fun d n1 ⟨l, v, e1, e2, q⟩ => ?_) q)
  intro v1 H1 k1 s1 r1
  subst e1
  cases id r1 with
  | obj n0 h0 s0 =>
    obtain ⟨w, hw, rw'⟩ := s0.look e2
    exact ⟨_, _, _, _, _, rfl, h0, c, na, hw, q _ H1 k1 s1 rw'⟩
/-! making an object -/
/-- what __init__ does: from the arguments to the attributes -/
def spI (C : Addr) (T : List D → (List (Str × D) → Prop) → Prop) : Sp := fun vs H Q _ => ∃ (x dx : Addr) (ws : List V) (ds : List D) (O : Addr → Prop), vs = .ref x :: ws ∧ H x = some (.ins C dx []) ∧ ¬ O x ∧ (∀ a, O a → H a ≠ none) ∧ Rs (fun a => O a ∨ a = x) H ws ds ∧
  T ds (fun fs => ∀ H' vfs, (∀ b o, b ≠ x → H b = some o → H' b = some o) → H' x = some (.ins C dx vfs) → Rf (fun a => O a ∨ a = x) H' vfs fs → Q .non H')
def tMakeD (C : Addr) (T : List D → (List (Str × D) → Prop) → Prop) (Ts : TDs) : TD := fun env n K => Ts env n fun xs n1 => T xs fun fs => K (.obj C fs) n1
theorem make_q {C : Addr} {T : List D → (List (Str × D) → Prop) → Prop} {O : Addr → Prop} {σ : L2.St} {H H1 : Hp} {env : Sls} {n1 : Nat} {vs : List V} {xs : List D} {Q : VK} {E : XK} (hm : ∀ ds K K', (∀ fs, K fs → K' fs) → T ds K → T ds K') (e : EE m O σ H1 env) (k : KX m.d H H1) (s : m.St n1 H1) (r : Rs O H1 vs xs)
    (q : T xs fun fs => Out m O H Q (.obj C fs) n1) : ∀ x dx, H1 x = none → H1 dx = none → dx ≠ x → spI C T (.ref x :: vs) (upd (upd H1 dx (.own x)) x (.ins C dx [])) (fun v H2 => v = .non ∧ Q (.ref x) H2) E := by
  intro x dx nx ndx ne
  have sm : ∀ b o, H1 b = some o → (upd (upd H1 dx (.own x)) x (.ins C dx [])) b = some o := fun b o h => by rw [upd_ne (ne_of_none h nx), upd_ne (ne_of_none h ndx)]; exact h
  have nO := e.new nx
  refine ⟨x, dx, vs, xs, O, rfl, upd_same, nO, fun a ha => ?_, r.keep fun b o n h => ⟨sm b o h, fun z => z.elim n (ne_of_none h nx)⟩, hm _ _ _ (fun fs o => ?_) q⟩
  · cases z : H1 a with
    | none => exact absurd z (e.old a ha)
    | some o => rw [sm a o z]; exact fun z => nomatch z
  · intro H' vfs kk hx rf
    have k2 : ∀ b o, H1 b = some o → H' b = some o := fun b o h => kk b o (ne_of_none h nx) (sm b o h)
    exact ⟨rfl, o _ H' (k.trans fun b u _ h => k2 b u h) (m.keep n1 H1 H' s fun a u _ h => k2 a u h) (.obj nO hx (rf.keep fun b u n h => ⟨h, fun z => n (.inl z)⟩))⟩
theorem v_make {C : Addr} {k : Nat} {f : Addr} {fd : FuncData} {ps : List Str} {T : List D → (List (Str × D) → Prop) → Prop} {x : Str} {p pos : Pos} {e : Expr} {es : List Expr} {Ts : TDs} (M : Mk X.K C f) (F : FnOk X.prog X.w X.K X.mg X.base CX0 k f fd ps (spI C T)) (hm : ∀ ds K K', (∀ fs, K fs → K' fs) → T ds K → T ds K') (hr : Room (k + 1) X.A) (hg : Gl X x) (hmg : X.mg x = some (.ref C)) (hb : Binds X.K fd ps []) (a : AV X m (e :: es) Ts)
    (hdb : (x == ("__debug__" : Str)) = false := by decide) (he : starEach (e :: es) X.env = (false, eval e X.env) :: starEach es X.env := by rfl) (hpl : (backTo pos (starEach es X.env)).any (·.1) = false := by rfl) : EV X m (.Call (.Name x p) (e :: es) [] pos) (tMakeD C T Ts) := by
  obtain ⟨t, pa, h⟩ := a.ex
  refine ⟨fun env n K K' hk q => a.mono _ _ _ _ (fun xs n1 q => hm _ _ _ (fun fs z => hk _ _ z) q) q, _, pe_make M F hr hg hmg hb .nil pass0 pa hdb he hpl, fun O σ H env n Q e s q => ?_⟩
  refine h O σ H env n _ e s (a.mono _ _ _ _ (fun xs n1 q => ?_) q)
  intro vs H1 k1 s1 r1
  rw [List.append_nil]
  exact make_q hm (e.kx k1 s1) k1 s1 r1 q
end
end DL

set_option Elab.async false
set_option linter.all false
set_option maxRecDepth 100000
set_option maxHeartbeats 1000000
namespace DL
open PySem L2
/-! ### statements -/
/-- O, and one's own objects -/
def OO (O : Addr → Prop) (env : Sls) (σ : L2.St) : Addr → Prop := fun a => O a ∨ ownA env σ a
/-- what is kept through a row of statements: what Kp names stands as in Hk; O: what results must not touch -/
structure Fm where
  Hk : Hp
  Kp : Addr → Prop
  O : Addr → Prop
def KK (m : Md) (F : Fm) (H : Hp) : Prop := ∀ b o, F.Kp b → ¬ m.d b → F.Hk b = some o → H b = some o
theorem KK.trans {m : Md} {F : Fm} {H H' : Hp} (a : KK m F H) (k : KX m.d H H') : KK m F H' := fun b o h1 h2 h3 => k b o h2 (a b o h1 h2 h3)
/-- where one stands between two statements -/
structure EO0 (m : Md) (F : Fm) (σ : L2.St) (H : Hp) (env : Sls) : Prop where
  ee : EE0 m (OO F.O env σ) σ H env
  gd : ∀ a, m.g a → F.O a
  o0 : ∀ a, F.O a → F.Kp a
  kt : ∀ a, F.Kp a → F.Hk a ≠ none
  kp : KK m F H
  ow : ∀ a, ownA env σ a → ¬ F.Kp a
  un : ∀ (i j : Nat) (w x : OwnS) (a : Addr), env[i]? = some (.own w) → env[j]? = some (.own x) → σ[i]? = some (some (.ref a)) → σ[j]? = some (some (.ref a)) → i = j
theorem EO0.kx {m : Md} {F : Fm} {σ : L2.St} {H H' : Hp} {env : Sls} (e : EO0 m F σ H env) (k : KX m.d H H') {n : Nat} (s : m.St n H') : EO0 m F σ H' env := ⟨e.ee.kx k s, e.gd, e.o0, e.kt, e.kp.trans k, e.ow, e.un⟩
/-- a new address is not kept -/
theorem EO0.new {m : Md} {F : Fm} {σ : L2.St} {H : Hp} {env : Sls} (e : EO0 m F σ H env) {p : Addr} (h : H p = none) : ¬ F.Kp p := fun z => by
  by_cases d : m.d p
  · exact e.ee.old p (.inl (e.gd p (m.dg p d))) h
  · cases q : F.Hk p with
    | none => exact e.kt p z q
    | some o => rw [e.kp p o z d q] at h; cases h
theorem ownA_set {env : Sls} {σ : L2.St} {i : Nat} {v : Option V} {d : D} {a : Addr} (h : ownA (env.set i (.val d)) (σ.set i v) a) : ownA env σ a ∧ ∃ (j : Nat) (w : OwnS), j ≠ i ∧ env[j]? = some (.own w) ∧ σ[j]? = some (some (.ref a)) := by
  obtain ⟨j, w, h1, h2⟩ := h
  rw [List.getElem?_set] at h1
  by_cases e : i = j
  · rw [if_pos e] at h1
    split at h1 <;> cases h1
  · rw [if_neg e] at h1
    rw [List.getElem?_set_ne e] at h2
    exact ⟨⟨j, w, h1, h2⟩, j, w, fun z => e z.symm, h1, h2⟩
/-- fewer things are kept -/
theorem EE0.less {m : Md} {O O' : Addr → Prop} {σ : L2.St} {H : Hp} {env : Sls} (e : EE0 m O σ H env) (h : ∀ a, O' a → O a) (g : ∀ a, m.g a → O' a) (ow : ∀ (i : Nat) (w : OwnS) (a : Addr), env[i]? = some (.own w) → σ[i]? = some (some (.ref a)) → O' a) : EE0 m O' σ H env := by
  have kk : ∀ b o, ¬ O b → H b = some o → H b = some o ∧ ¬ O' b := fun b o n q => ⟨q, fun z => n (h b z)⟩
  refine ⟨e.len, g, fun a ha => e.old a (h a ha), fun i d q => ?_, fun i w q => ?_⟩
  · obtain ⟨v, h1, h2⟩ := e.val i d q
    exact ⟨v, h1, h2.keep kk⟩
  · obtain ⟨a, h1, h2, h3, h4⟩ := e.own i w q
    exact ⟨a, h1, h2.keep kk (fun _ z => z), ow i w a q h1, h4⟩
/-- a value is stored in a slot -/
theorem EO0.set {m : Md} {F : Fm} {σ : L2.St} {H : Hp} {env : Sls} (e : EO0 m F σ H env) {i : Nat} {v : V} {d : D} (r : R (OO F.O env σ) H v d) : EO0 m F (σ.set i (some v)) H (env.set i (.val d)) := by
  refine ⟨?_, e.gd, e.o0, e.kt, e.kp, fun a h => e.ow a (ownA_set h).1, fun j k w x a h1 h2 h3 h4 => ?_⟩
  · refine (e.ee.set (i := i) r).less (fun a h => h.elim .inl fun z => .inr (ownA_set z).1) (fun a h => .inl (e.gd a h)) (fun j w a h1 h2 => .inr ⟨j, w, h1, h2⟩)
  · have f : ∀ {j : Nat} {w : OwnS} {a : Addr}, (env.set i (.val d))[j]? = some (.own w) → (σ.set i (some v))[j]? = some (some (.ref a)) → env[j]? = some (.own w) ∧ σ[j]? = some (some (.ref a)) := by
      intro j w a h1 h2
      rw [List.getElem?_set] at h1
      by_cases q : i = j
      · rw [if_pos q] at h1
        split at h1 <;> cases h1
      · rw [if_neg q] at h1
        rw [List.getElem?_set_ne q] at h2
        exact ⟨h1, h2⟩
    obtain ⟨a1, b1⟩ := f h1 h3
    obtain ⟨a2, b2⟩ := f h2 h4
    exact e.un j k w x a a1 a2 b1 b2
theorem EO0.sets {m : Md} {F : Fm} {O1 : Addr → Prop} {H : Hp} : ∀ {vas : List (Nat × V)} {asg : List (Nat × D)} {σ : L2.St} {env : Sls}, EO0 m F σ H env → (∀ a, OO F.O env σ a → O1 a) → As O1 H vas asg → EO0 m F (sets σ vas) H (setsE env asg)
  | _, _, σ, env, e, h, .nil => e
  | _, _, σ, env, e, h, .cons r a => by
    refine (e.set (r.keep fun b o n q => ⟨q, fun z => n (h b z)⟩)).sets (fun a z => h a ?_) a
    exact z.elim .inl fun z => .inr (ownA_set z).1
/-- an own object becomes an ordinary value -/
theorem EO0.free {m : Md} {F : Fm} {σ : L2.St} {H : Hp} {env : Sls} (e : EO0 m F σ H env) {i : Nat} {w : OwnS} (h : env[i]? = some (.own w)) : EO0 m F σ H (env.set i (.val w.d)) := by
  obtain ⟨a, g1, g2, g3, g4⟩ := e.ee.own i w h
  have lt : i < σ.length := (List.getElem?_eq_some_iff.mp g1).1
  have es : σ.set i (some (.ref a)) = σ := by
    apply List.ext_getElem?
    intro j
    by_cases q : i = j
    · subst q; rw [List.getElem?_set_self lt, g1]
    · rw [List.getElem?_set_ne q]
  have kk : ∀ b o, ¬ OO F.O env σ b → H b = some o → H b = some o ∧ ¬ OO F.O (env.set i (.val w.d)) σ b := fun b o n q => ⟨q, fun z => n (z.elim .inl fun z => .inr (by rw [← es] at z; have := (ownA_set z).1; exact this))⟩
  have na : ¬ OO F.O (env.set i (.val w.d)) σ a := by
    rintro (z | z)
    · exact e.ow a ⟨i, w, h, g1⟩ (e.o0 a z)
    · rw [← es] at z
      obtain ⟨_, j, x, nj, h1, h2⟩ := ownA_set z
      exact nj (e.un j i x w a h1 h h2 g1)
  have ra : R (OO F.O (env.set i (.val w.d)) σ) H (.ref a) w.d := (g2.keep kk (fun _ z => z)).r na
  have e1 : EE0 m (OO F.O (env.set i (.val w.d)) σ) (σ.set i (some (.ref a))) H (env.set i (.val w.d)) := by
    have e2 : EE0 m (OO F.O (env.set i (.val w.d)) σ) (σ.set i (some (.ref a))) H (env.set i (.val w.d)) := by
      refine ⟨by rw [List.length_set, List.length_set]; exact e.ee.len, fun a ha => .inl (e.gd a ha), fun a ha => ?_, fun j d q => ?_, fun j x q => ?_⟩
      · exact e.ee.old a (ha.elim .inl fun z => .inr (by rw [← es] at z; exact (ownA_set z).1))
      · rw [List.getElem?_set] at q
        by_cases hj : i = j
        · subst hj
          rw [if_pos rfl] at q
          split at q
          · cases q
            exact ⟨.ref a, List.getElem?_set_self lt, ra⟩
          · cases q
        · rw [if_neg hj] at q
          rw [List.getElem?_set_ne hj]
          obtain ⟨v, h1, h2⟩ := e.ee.val j d q
          exact ⟨v, h1, h2.keep kk⟩
      · rw [List.getElem?_set] at q
        by_cases hj : i = j
        · rw [if_pos hj] at q
          split at q <;> cases q
        · rw [if_neg hj] at q
          rw [List.getElem?_set_ne hj]
          obtain ⟨b, h1, h2, h3, h4⟩ := e.ee.own j x q
          exact ⟨b, h1, h2.keep kk (fun _ z => z), .inr ⟨j, x, by rw [List.getElem?_set_ne hj]; exact q, h1⟩, h4⟩
    exact e2
  rw [es] at e1
  refine ⟨e1, e.gd, e.o0, e.kt, e.kp, fun a h => e.ow a (by rw [← es] at h; exact (ownA_set h).1), fun j k x y b h1 h2 h3 h4 => ?_⟩
  have f : ∀ {j : Nat} {x : OwnS}, (env.set i (.val w.d))[j]? = some (.own x) → env[j]? = some (.own x) := by
    intro j x h1
    rw [List.getElem?_set] at h1
    by_cases q : i = j
    · rw [if_pos q] at h1
      split at h1 <;> cases h1
    · rw [if_neg q] at h1
      exact h1
  exact e.un j k x y b (f h1) (f h2) h3 h4
/-- what is wished for where an error is raised, wherever one stands -/
def WXO (m : Md) (F : Fm) : Prop := ∀ σ H env n C fs d vfs, EO0 m F σ H env → m.St n H → H d = some (.xd vfs) → ¬ OO F.O env σ d → Rf (OO F.O env σ) H vfs fs → m.er C fs env n → m.W (.ref C) (some d) σ H
structure EO (m : Md) (F : Fm) (σ : L2.St) (H : Hp) (env : Sls) : Prop where
  o : EO0 m F σ H env
  wx : WXO m F
theorem EO.ee {m : Md} {F : Fm} {σ : L2.St} {H : Hp} {env : Sls} (e : EO m F σ H env) : EE m (OO F.O env σ) σ H env := ⟨e.o.ee, fun C fs n d H' vfs k s h nd r z => e.wx σ H' env n C fs d vfs (e.o.kx k s) s h nd r z⟩
section
variable {m : Md} {F : Fm} {σ : L2.St} {H H' : Hp} {env : Sls}
theorem EO.kx (e : EO m F σ H env) (k : KX m.d H H') {n : Nat} (s : m.St n H') : EO m F σ H' env := ⟨e.o.kx k s, e.wx⟩
theorem EO.new (e : EO m F σ H env) {p : Addr} (h : H p = none) : ¬ F.Kp p := e.o.new h
theorem EO.set (e : EO m F σ H env) {i : Nat} {v : V} {d : D} (r : R (OO F.O env σ) H v d) : EO m F (σ.set i (some v)) H (env.set i (.val d)) := ⟨e.o.set r, e.wx⟩
theorem EO.sets {O1 : Addr → Prop} {vas : List (Nat × V)} {asg : List (Nat × D)} (e : EO m F σ H env) (h : ∀ a, OO F.O env σ a → O1 a) (a : As O1 H vas asg) : EO m F (DL.sets σ vas) H (setsE env asg) := ⟨e.o.sets h a, e.wx⟩
theorem EO.free (e : EO m F σ H env) {i : Nat} {w : OwnS} (h : env[i]? = some (.own w)) : EO m F σ H (env.set i (.val w.d)) := ⟨e.o.free h, e.wx⟩
theorem EO.kp (e : EO m F σ H env) : KK m F H := e.o.kp
theorem EO.gd (e : EO m F σ H env) : ∀ a, m.g a → F.O a := e.o.gd
theorem EO.o0 (e : EO m F σ H env) : ∀ a, F.O a → F.Kp a := e.o.o0
theorem EO.kt (e : EO m F σ H env) : ∀ a, F.Kp a → F.Hk a ≠ none := e.o.kt
theorem EO.ow (e : EO m F σ H env) : ∀ a, ownA env σ a → ¬ F.Kp a := e.o.ow
theorem EO.un (e : EO m F σ H env) : ∀ (i j : Nat) (w x : OwnS) (a : Addr), env[i]? = some (.own w) → env[j]? = some (.own x) → σ[i]? = some (some (.ref a)) → σ[j]? = some (some (.ref a)) → i = j := e.o.un
end
abbrev SK := Sls → Nat → Prop
structure EndD where
  nx : SK
  rt : DK
  bk : SK
  ct : SK
/-- the ends over data give the ends over the heap -/
structure Ends' (m : Md) (F : Fm) (Z : EndD) (E : Ends) : Prop where
  nx : ∀ σ H env n, EO m F σ H env → m.St n H → Z.nx env n → E.nx σ H
  rt : ∀ v H d n, KK m F H → m.St n H → R F.O H v d → Z.rt d n → E.rt v H
  bk : ∀ σ H env n, EO m F σ H env → m.St n H → Z.bk env n → E.bk σ H
  ct : ∀ σ H env n, EO m F σ H env → m.St n H → Z.ct env n → E.ct σ H
abbrev TDS := EndD → Sls → Nat → Prop
structure SV (X : Cx) (m : Md) (s : Stmt) (T : TDS) : Prop where
  ex : ∃ t, PS X s t ∧ ∀ F σ H env n Z E, EO m F σ H env → m.St n H → Ends' m F Z E → T Z env n → t E σ H
structure SsV (X : Cx) (m : Md) (s : List Stmt) (T : TDS) : Prop where
  ex : ∃ t, PSs X s t ∧ ∀ F σ H env n Z E, EO m F σ H env → m.St n H → Ends' m F Z E → T Z env n → t E σ H
theorem ret_ok {m : Md} {F : Fm} {Z : EndD} {E : Ends} (h : Ends' m F Z E) {σ : L2.St} {H H1 : Hp} {env : Sls} {v : V} {d : D} {n : Nat} (e : EO m F σ H env) (k : KX m.d H H1) (s : m.St n H1) (r : R (OO F.O env σ) H1 v d) (z : Z.rt d n) : E.rt v H1 :=
  h.rt v H1 d n (e.kp.trans k) s (r.keep fun b o n q => ⟨q, fun z => n (.inl z)⟩) z
section
variable {X : Cx} {m : Md}
def sNext : TDS := fun Z env n => Z.nx env n
theorem ss_nil : SsV X m [] sNext := ⟨_, pss_nil, fun F σ H env n Z E e s h t => h.nx _ _ _ _ e s t⟩
theorem s_pass {pos : Pos} : SV X m (.Pass pos) sNext := ⟨_, ps_pass, fun F σ H env n Z E e s h t => h.nx _ _ _ _ e s t⟩
theorem s_break {pos : Pos} : SV X m (.Break pos) (fun Z env n => Z.bk env n) := ⟨_, ps_break, fun F σ H env n Z E e s h t => h.bk _ _ _ _ e s t⟩
theorem s_continue {pos : Pos} : SV X m (.Continue pos) (fun Z env n => Z.ct env n) := ⟨_, ps_continue, fun F σ H env n Z E e s h t => h.ct _ _ _ _ e s t⟩
theorem s_doc {x j pos pos'} : SV X m (.Expr (.Constant (.str x) j pos) pos') sNext := ⟨_, ps_doc, fun F σ H env n Z E e s h t => h.nx _ _ _ _ e s t⟩
theorem s_never {st : Stmt} : SV X m st (fun _ _ _ => False) := ⟨_, ps_never, fun F σ H env n Z E e s h t => t.elim⟩
def sSeq (t u : TDS) : TDS := fun Z => t { Z with nx := u Z }
theorem ss_cons {st : Stmt} {r : List Stmt} {t u : TDS} (a : SV X m st t) (b : SsV X m r u) : SsV X m (st :: r) (sSeq t u) := by
  obtain ⟨t1, p1, h1⟩ := a.ex
  obtain ⟨t2, p2, h2⟩ := b.ex
  exact ⟨_, pss_cons p1 p2, fun F σ H env n Z E e s h q => h1 F σ H env n { Z with nx := u Z } { E with nx := t2 E } e s ⟨fun σ' H' env' n' e' s' q' => h2 F σ' H' env' n' Z E e' s' h q', h.rt, h.bk, h.ct⟩ q⟩
theorem ss_one {st : Stmt} {t : TDS} (a : SV X m st t) : SsV X m [st] t := by
  obtain ⟨t1, p1, h1⟩ := a.ex
  exact ⟨_, pss_one p1, h1⟩
/-- with a word between -/
def sCut (t u : TDS) : TDS := fun Z env n => ∃ W : SK, t { Z with nx := W } env n ∧ ∀ env' n', W env' n' → u Z env' n'
theorem ss_cut {st : Stmt} {r : List Stmt} {t u : TDS} (a : SV X m st t) (b : SsV X m r u) : SsV X m (st :: r) (sCut t u) := by
  obtain ⟨t1, p1, h1⟩ := a.ex
  obtain ⟨t2, p2, h2⟩ := b.ex
  exact ⟨_, pss_cons p1 p2, fun F σ H env n Z E e s h ⟨W, q, q2⟩ => h1 F σ H env n { Z with nx := W } { E with nx := t2 E } e s ⟨fun σ' H' env' n' e' s' q' => h2 F σ' H' env' n' Z E e' s' h (q2 _ _ q'), h.rt, h.bk, h.ct⟩ q⟩
def sRet (T : TD) : TDS := fun Z env n => T env n Z.rt
theorem s_ret {e : Expr} {T : TD} {pos : Pos} (a : EV X m e T) : SV X m (.Return (some e) pos) (sRet T) := by
  obtain ⟨t, p, h⟩ := a.ex
  refine ⟨_, ps_ret p, fun F σ H env n Z E e s z q => ?_⟩
  exact h _ σ H env n _ e.ee s (a.mono _ _ _ _ (fun d n1 q v H1 k1 s1 r1 => ret_ok z e k1 s1 r1 q) q)
theorem s_retN {pos : Pos} : SV X m (.Return none pos) (fun Z _ n => Z.rt .non n) := ⟨_, ps_retN, fun F σ H env n Z E e s z q => z.rt _ _ _ _ e.kp s .non q⟩
def sExp (T : TD) : TDS := fun Z env n => T env n fun _ n1 => Z.nx env n1
theorem s_exp {e : Expr} {T : TD} {pos : Pos} (a : EV X m e T) (hs : swapsWith e none pos.line X.env = pure false := by rfl) : SV X m (.Expr e pos) (sExp T) := by
  obtain ⟨t, p, h⟩ := a.ex
  refine ⟨_, ps_expr p hs, fun F σ H env n Z E e s z q => ?_⟩
  exact h _ σ H env n _ e.ee s (a.mono _ _ _ _ (fun d n1 q v H1 k1 s1 r1 => z.nx _ _ _ _ (e.kx k1 s1) s1 q) q)
def sIf (c : TDb) (t u : TDS) : TDS := fun Z env n => c env n fun b n1 => if b = true then t Z env n1 else u Z env n1
theorem s_if {c : Expr} {a b : List Stmt} {Tc : TDb} {t u : TDS} {pos : Pos} (hc : BV X m c Tc) (ha : SsV X m a t) (hb : SsV X m b u) : SV X m (.If c a b pos) (sIf Tc t u) := by
  obtain ⟨tc, pc, h⟩ := hc.ex
  obtain ⟨ta, pa, h1⟩ := ha.ex
  obtain ⟨tb, pb, h2⟩ := hb.ex
  refine ⟨_, ps_if pc pa pb, fun F σ H env n Z E e s z q => ?_⟩
  refine h _ σ H env n _ e.ee s (hc.mono _ _ _ _ (fun b n1 q => ?_) q)
  intro H1 k1 s1
  cases b with
  | true => exact iteT (h1 F σ H1 env n1 Z E (e.kx k1 s1) s1 z (show t Z env n1 from q))
  | false => exact iteF (h2 F σ H1 env n1 Z E (e.kx k1 s1) s1 z (show u Z env n1 from q))
/-- target = e -/
def sAsg (T : TD) (f : D → List (Nat × D) → Prop) : TDS := fun Z env n => T env n fun d n1 => ∃ asg, f d asg ∧ Z.nx (setsE env asg) n1
theorem s_asg {te : Expr} {e : Expr} {T : TD} {g : TG} {f : D → List (Nat × D) → Prop} {pos : Pos} (a : EV X m e T) (b : TV X te g f) (hx : ∀ {t : TE}, PE X e t → PS X (.Assign [te] e pos) (tAsg t g)) : SV X m (.Assign [te] e pos) (sAsg T f) := by
  obtain ⟨t, p, h⟩ := a.ex
  refine ⟨_, hx p, fun F σ H env n Z E e s z q => ?_⟩
  refine h _ σ H env n _ e.ee s (a.mono _ _ _ _ (fun d n1 ⟨asg, hf, q⟩ => ?_) q)
  intro v H1 k1 s1 r1
  obtain ⟨vas, as, hgo⟩ := b.run _ H1 v d asg r1 hf
  exact hgo _ _ (z.nx _ _ _ _ ((e.kx k1 s1).sets (fun a h => h) as) s1 q)
/-- x, y = e1, e2 -/
def sPar (i j : Nat) (Ta Tb : TD) : TDS := fun Z env n => Ta env n fun x n1 => Tb env n1 fun y n2 => Z.nx ((env.set i (.val x)).set j (.val y)) n2
theorem s_par {st : Stmt} {i j : Nat} {a b : Expr} {Ta Tb : TD} (ha : EV X m a Ta) (hb : EV X m b Tb) (hx : ∀ {t : TA}, PA X [a, b] t → PS X st (tPar i j t)) (hs : starEach [a, b] X.env = (false, eval a X.env) :: starEach [b] X.env := by rfl) (hs2 : starEach [b] X.env = (false, eval b X.env) :: starEach [] X.env := by rfl) : SV X m st (sPar i j Ta Tb) := by
  obtain ⟨ta, tb, pa, pb, hz⟩ := two ha hb
  refine ⟨_, hx (pa_cons pa (pa_cons pb pa_nil hs2) hs), fun F σ H env n Z E e s z q => ?_⟩
  refine hz _ σ H env n _ _ e.ee s q fun v w x y H2 n2 k2 e2 s2 r1 r2 q => ?_
  have f1 := (e.kx k2 s2).set (i := i) r1
  refine ⟨_, _, rfl, z.nx _ _ _ _ (f1.set (i := j) (r2.keep fun b o n q => ⟨q, fun z => n (z.elim .inl fun z => .inr (ownA_set z).1)⟩)) s2 q⟩
/-- an own object is given away -/
theorem s_free {st : Stmt} {t : TDS} (i : Nat) (a : SV X m st t) : SV X m st (fun Z env n => ∃ w, env[i]? = some (.own w) ∧ t Z (env.set i (.val w.d)) n) := by
  obtain ⟨t1, p1, h1⟩ := a.ex
  exact ⟨_, p1, fun F σ H env n Z E e s z ⟨w, hw, q⟩ => h1 F σ H _ n Z E (e.free hw) s z q⟩
/-! for -/
def sFor (It : TDi) (f : D → List (Nat × D) → Prop) (b : TDS) : TDS := fun Z env n => It env n fun ds n1 => ∃ I : Nat → Sls → Nat → Prop, I 0 env n1 ∧
  (∀ i d env' n', ds[i]? = some d → I i env' n' → ∃ asg, f d asg ∧ b { nx := I (i + 1), ct := I (i + 1), bk := Z.nx, rt := Z.rt } (setsE env' asg) n') ∧ ∀ env' n', I ds.length env' n' → Z.nx env' n'
theorem s_for {tg iter : Expr} {body : List Stmt} {It : TDi} {g : TG} {f : D → List (Nat × D) → Prop} {b : TDS} {pos : Pos} (hp : PassesOwn (model X.prog X.w) X.A X.env X.xe) (hc : X.calm = true) (hi : IV X m tg iter It) (hg : TV X tg g f) (hb : SsV X m body b)
    (hs : ∀ x, foldedSetIterable iter X.env x = pure x := by intro _; rfl) : SV X m (.For tg iter body [] pos) (sFor It f b) := by
  obtain ⟨wi, pi, h⟩ := hi.ex
  obtain ⟨tb, pb, h2⟩ := hb.ex
  refine ⟨_, ps_for hp hc pi hg.pg pb hs, fun F σ H env n Z E e s z q => ?_⟩
  refine h _ σ H env n _ e.ee s (hi.mono _ _ _ _ (fun ds n1 ⟨I, i0, is, ie⟩ => ?_) q)
  intro J H1 k1 s1 ok
  obtain ⟨G, Y, wk, hG, hY⟩ := ok
  have e1 := e.kx k1 s1
  -- what is walked stands: it is kept, too, through the loop
  let F' : Fm := ⟨H1, fun a => F.Kp a ∨ (H1 a ≠ none ∧ ¬ OO F.O env σ a), F.O⟩
  have kpF : ∀ {H'}, KK m F' H' → KK m F H' := fun {H'} k b o h1 h2 h3 => k b o (.inl h1) h2 (e1.kp b o h1 h2 h3)
  have back0 : ∀ {σ' H' env'}, EO0 m F' σ' H' env' → EO0 m F σ' H' env' := fun {σ' H' env'} x => ⟨x.ee, x.gd, e.o0, e.kt, kpF x.kp, fun a h z => x.ow a h (.inl z), x.un⟩
  have wx' : WXO m F' := fun σ' H' env' n' C fs d vfs x => e.wx σ' H' env' n' C fs d vfs (back0 x)
  have back : ∀ {σ' H' env'}, EO m F' σ' H' env' → EO m F σ' H' env' := fun {σ' H' env'} x => ⟨back0 x.o, e.wx⟩
  have go : EO m F' σ H1 env := by
    refine ⟨⟨e1.o.ee, e1.gd, fun a h => .inl (e.o0 a h), fun a h => ?_, fun b o _ _ h => h, fun a h z => z.elim (e.ow a h) fun z => z.2 (.inr h), e1.un⟩, wx'⟩
    rcases h with h | h
    · intro z
      exact e1.new z h
    · exact h.1
  have src : ∀ {σ' H' env'}, EO m F' σ' H' env' → KX (OO F.O env σ) H1 H' ∧ ∀ a o, ¬ OO F.O env σ a → H1 a = some o → ¬ OO F.O env' σ' a := by
    intro σ' H' env' x
    refine ⟨fun b o n q => x.kp b o (.inr ⟨(by rw [q]; exact fun z => by cases z), n⟩) (fun z => n (.inl (e.gd b (m.dg b z)))) q, fun a o n q z => ?_⟩
    rcases z with z | z
    · exact n (.inl z)
    · exact x.ow a z (.inr ⟨(by rw [q]; exact fun z => by cases z), n⟩)
  let P : Nat → L2.St → Hp → Prop := fun i σ' H' => ∃ env' n', EO m F' σ' H' env' ∧ m.St n' H' ∧ I i env' n'
  refine for_it wk P ⟨env, n1, go, s1, i0⟩ (fun i σ' H' _ ⟨env', n', e', _, _⟩ => hG H' (src e').1) ?_ ?_
  · intro i x σ' H' H'' hi' ⟨env', n', e', s', q'⟩ y
    obtain ⟨kx, fr⟩ := src e'
    obtain ⟨d, hd, sm, rx⟩ := hY i H' x H'' hi' kx y
    have rx' : R (OO F.O env' σ') H'' x d := rx _ e'.ee.old fun a o n q => fr a o n q
    obtain ⟨asg, hf, hz⟩ := is i d env' n' hd q'
    obtain ⟨vas, as, hgo⟩ := hg.run _ H'' x d asg rx' hf
    refine hgo _ _ ?_
    have sj : m.St n' H'' := m.keep n' H' H'' s' fun a o _ q => sm a o q
    have ej := (e'.kx (fun b o _ q => sm b o q) sj).sets (fun a h => h) as
    refine h2 F' _ H'' _ n' { nx := I (i + 1), ct := I (i + 1), bk := Z.nx, rt := Z.rt } _ ej sj ⟨fun σ2 H2 env2 n2 e2 s2 q2 => ⟨env2, n2, e2, s2, q2⟩, fun v H2 d n2 k2 s2 r2 q2 => z.rt v H2 d n2 (kpF k2) s2 r2 q2, fun σ2 H2 env2 n2 e2 s2 q2 => z.nx _ _ _ _ (back e2) s2 q2, fun σ2 H2 env2 n2 e2 s2 q2 => ⟨env2, n2, e2, s2, q2⟩⟩ hz
  · rintro σ' H' ⟨env', n', e', s', q'⟩
    exact z.nx _ _ _ _ (back e') s' (ie env' n' q')
end
end DL

set_option Elab.async false
set_option linter.all false
set_option maxRecDepth 100000
set_option maxHeartbeats 1000000
namespace DL
open PySem L2
/-! ### own objects: made, changed -/
theorem own_get {env : Sls} {i j : Nat} {s t : Sl} (h : (env.set i s)[j]? = some t) (hi : i < env.length) : (j = i ∧ t = s) ∨ (j ≠ i ∧ env[j]? = some t) := by
  rw [List.getElem?_set] at h
  by_cases q : i = j
  · rw [if_pos q, if_pos (q ▸ hi)] at h
    cases h
    exact .inl ⟨q.symm, rfl⟩
  · rw [if_neg q] at h
    exact .inr ⟨fun z => q z.symm, h⟩
/-- an own object at a is changed -/
theorem EO0.put {m : Md} {F : Fm} {σ : L2.St} {H : Hp} {env : Sls} (e : EO0 m F σ H env) {i : Nat} {w w' : OwnS} {a : Addr} {o : HO} (h : env[i]? = some (.own w)) (ha : σ[i]? = some (some (.ref a))) (hw : OwnAt (OO F.O env σ) (upd H a o) a w') : EO0 m F σ (upd H a o) (env.set i (.own w')) := by
  have lt : i < env.length := (List.getElem?_eq_some_iff.mp h).1
  have oa : ownA env σ a := ⟨i, w, h, ha⟩
  have iff : ∀ b, ownA (env.set i (.own w')) σ b ↔ ownA env σ b := by
    intro b
    constructor
    · rintro ⟨j, x, h1, h2⟩
      rcases own_get h1 lt with ⟨q1, q2⟩ | ⟨q1, q2⟩
      · subst q1; exact ⟨j, w, h, h2⟩
      · exact ⟨j, x, q2, h2⟩
    · rintro ⟨j, x, h1, h2⟩
      by_cases q : j = i
      · subst q; exact ⟨j, w', List.getElem?_set_self lt, h2⟩
      · exact ⟨j, x, by rw [List.getElem?_set_ne (fun z => q z.symm)]; exact h1, h2⟩
  have oo : ∀ b, OO F.O (env.set i (.own w')) σ b ↔ OO F.O env σ b := fun b => or_congr Iff.rfl (iff b)
  have ne : ∀ {b : Addr}, ¬ OO F.O env σ b → b ≠ a := fun n z => n (.inr (z ▸ oa))
  have kk : ∀ b u, ¬ OO F.O env σ b → H b = some u → (upd H a o) b = some u ∧ ¬ OO F.O (env.set i (.own w')) σ b := fun b u n q => ⟨by rw [upd_ne (ne n)]; exact q, fun z => n ((oo b).mp z)⟩
  refine ⟨⟨by rw [List.length_set]; exact e.ee.len, fun b hb => .inl (e.gd b hb), fun b hb => ?_, fun j d q => ?_, fun j x q => ?_⟩, e.gd, e.o0, e.kt, fun b u h1 h2 h3 => ?_, fun b hb => e.ow b ((iff b).mp hb), fun j k x y b h1 h2 h3 h4 => ?_⟩
  · by_cases q : b = a
    · rw [q, upd_same]; exact fun z => by cases z
    · rw [upd_ne q]; exact e.ee.old b ((oo b).mp hb)
  · rcases own_get q lt with ⟨_, z⟩ | ⟨_, z⟩
    · cases z
    · obtain ⟨v, h1, h2⟩ := e.ee.val j d z
      exact ⟨v, h1, h2.keep kk⟩
  · rcases own_get q lt with ⟨z1, z2⟩ | ⟨z1, z2⟩
    · cases z2
      subst z1
      obtain ⟨b, g1, g2, g3, g4⟩ := e.ee.own j w h
      rw [ha] at g1
      cases g1
      exact ⟨a, ha, hw.keep (fun b u n q => ⟨q, fun z => n ((oo b).mp z)⟩) (fun _ z => z), .inr ((iff a).mpr oa), g4⟩
    · obtain ⟨b, g1, g2, g3, g4⟩ := e.ee.own j x z2
      have nb : b ≠ a := fun z => z1 (e.un j i x w a z2 h (z ▸ g1) ha)
      exact ⟨b, g1, g2.keep kk (fun u z => by rw [upd_ne nb]; exact z), .inr ((iff b).mpr ⟨j, x, z2, g1⟩), g4⟩
  · have nb : b ≠ a := fun z => e.ow a oa (z ▸ h1)
    rw [upd_ne nb]
    exact e.kp b u h1 h2 h3
  · have f : ∀ {j : Nat} {x : OwnS}, (env.set i (.own w'))[j]? = some (.own x) → ∃ y, env[j]? = some (.own y) := by
      intro j x q
      rcases own_get q lt with ⟨z1, _⟩ | ⟨_, z2⟩
      · exact ⟨w, z1 ▸ h⟩
      · exact ⟨x, z2⟩
    obtain ⟨x', f1⟩ := f h1
    obtain ⟨y', f2⟩ := f h2
    exact e.un j k x' y' b f1 f2 h3 h4
/-- a new object becomes one's own, in slot i -/
theorem EO0.take {m : Md} {F : Fm} {σ : L2.St} {H H' : Hp} {env : Sls} (e : EO0 m F σ H env) {n : Nat} (s : m.St n H') (k : KX m.d H H') {i : Nat} {w : OwnS} {a : Addr} (hi : i < env.length) (na : H a = none) (hw : OwnAt (fun b => OO F.O env σ b ∨ b = a) H' a w) : EO0 m F (σ.set i (some (.ref a))) H' (env.set i (.own w)) := by
  have e' := e.kx k s
  have nO : ¬ OO F.O env σ a := e.ee.new na
  have ng : ¬ m.g a := fun z => nO (.inl (e.gd a z))
  have nown : ¬ ownA env σ a := fun z => nO (.inr z)
  have hs : i < σ.length := by rw [e.ee.len]; exact hi
  have one : ∀ b, ownA (env.set i (.own w)) (σ.set i (some (.ref a))) b → b = a ∨ (ownA env σ b ∧ b ≠ a) := by
    rintro b ⟨j, x, h1, h2⟩
    rcases own_get h1 hi with ⟨q1, q2⟩ | ⟨q1, q2⟩
    · subst q1
      rw [List.getElem?_set_self hs] at h2
      cases h2
      exact .inl rfl
    · rw [List.getElem?_set_ne (fun z => q1 z.symm)] at h2
      have : ownA env σ b := ⟨j, x, q2, h2⟩
      exact .inr ⟨this, fun z => nown (z ▸ this)⟩
  have kk : ∀ b u, ¬ OO F.O env σ b → H b = some u → H' b = some u ∧ ¬ OO F.O (env.set i (.own w)) (σ.set i (some (.ref a))) b := fun b u nb q => ⟨k b u (fun z => nb (.inl (e.gd b (m.dg b z)))) q, fun z => by
    rcases z with z | z
    · exact nb (.inl z)
    · rcases one b z with z | z
      · rw [z, na] at q; cases q
      · exact nb (.inr z.1)⟩
  refine ⟨⟨by rw [List.length_set, List.length_set]; exact e.ee.len, fun b hb => .inl (e.gd b hb), fun b hb => ?_, fun j d q => ?_, fun j x q => ?_⟩, e.gd, e.o0, e.kt, e'.kp, fun b hb => ?_, fun j l x y b h1 h2 h3 h4 => ?_⟩
  · rcases hb with hb | hb
    · exact e'.ee.old b (.inl hb)
    · rcases one b hb with z | z
      · rw [z]; obtain ⟨u, hu⟩ := hw.at; rw [hu]; exact fun z => by cases z
      · exact e'.ee.old b (.inr z.1)
  · rcases own_get q hi with ⟨_, z⟩ | ⟨z1, z2⟩
    · cases z
    · obtain ⟨v, h1, h2⟩ := e.ee.val j d z2
      exact ⟨v, by rw [List.getElem?_set_ne (fun z => z1 z.symm)]; exact h1, h2.keep kk⟩
  · rcases own_get q hi with ⟨z1, z2⟩ | ⟨z1, z2⟩
    · cases z2
      subst z1
      refine ⟨a, List.getElem?_set_self hs, hw.keep (fun b u nb q => ⟨q, fun z => ?_⟩) (fun _ z => z), .inr ⟨j, w, List.getElem?_set_self hi, List.getElem?_set_self hs⟩, ng⟩
      rcases z with z | z
      · exact nb (.inl (.inl z))
      · rcases one b z with z | z
        · exact nb (.inr z)
        · exact nb (.inl (.inr z.1))
    · obtain ⟨b, g1, g2, g3, g4⟩ := e.ee.own j x z2
      obtain ⟨u, hu⟩ := g2.at
      have g1' : (σ.set i (some (.ref a)))[j]? = some (some (.ref b)) := by rw [List.getElem?_set_ne (fun z => z1 z.symm)]; exact g1
      exact ⟨b, g1', g2.keep kk (fun u z => k b u (fun z => g4 (m.dg b z)) z), .inr ⟨j, x, by rw [List.getElem?_set_ne (fun z => z1 z.symm)]; exact z2, g1'⟩, g4⟩
  · rcases one b hb with z | z
    · rw [z]; exact e.new na
    · exact e.ow b z.1
  · have f : ∀ {j : Nat} {x : OwnS}, (env.set i (.own w))[j]? = some (.own x) → (σ.set i (some (.ref a)))[j]? = some (some (.ref b)) → (j = i ∧ b = a) ∨ (j ≠ i ∧ env[j]? = some (.own x) ∧ σ[j]? = some (some (.ref b))) := by
      intro j x q1 q2
      rcases own_get q1 hi with ⟨z1, _⟩ | ⟨z1, z2⟩
      · subst z1
        rw [List.getElem?_set_self hs] at q2
        cases q2
        exact .inl ⟨rfl, rfl⟩
      · rw [List.getElem?_set_ne (fun z => z1 z.symm)] at q2
        exact .inr ⟨z1, z2, q2⟩
    rcases f h1 h3 with ⟨a1, b1⟩ | ⟨a1, b1, c1⟩
    · rcases f h2 h4 with ⟨a2, b2⟩ | ⟨a2, b2, c2⟩
      · rw [a1, a2]
      · exact absurd ⟨l, y, b2, b1 ▸ c2⟩ nown
    · rcases f h2 h4 with ⟨a2, b2⟩ | ⟨a2, b2, c2⟩
      · exact absurd ⟨j, x, b1, b2 ▸ c1⟩ nown
      · exact e.un j l x y b b1 b2 c1 c2
theorem EO.put {m : Md} {F : Fm} {σ : L2.St} {H : Hp} {env : Sls} (e : EO m F σ H env) {i : Nat} {w w' : OwnS} {a : Addr} {o : HO} (h : env[i]? = some (.own w)) (ha : σ[i]? = some (some (.ref a))) (hw : OwnAt (OO F.O env σ) (upd H a o) a w') : EO m F σ (upd H a o) (env.set i (.own w')) := ⟨e.o.put h ha hw, e.wx⟩
theorem EO.take {m : Md} {F : Fm} {σ : L2.St} {H H' : Hp} {env : Sls} (e : EO m F σ H env) {n : Nat} (s : m.St n H') (k : KX m.d H H') {i : Nat} {w : OwnS} {a : Addr} (hi : i < env.length) (na : H a = none) (hw : OwnAt (fun b => OO F.O env σ b ∨ b = a) H' a w) : EO m F (σ.set i (some (.ref a))) H' (env.set i (.own w)) := ⟨e.o.take s k hi na hw, e.wx⟩
section
variable {X : Cx} {m : Md}
/-- x = a new list of one's own -/
def sOwn (i : Nat) (T : TDs) : TDS := fun Z env n => T env n fun ds n1 => i < env.length ∧ Z.nx (env.set i (.own (.lst ds))) n1
theorem s_own {st : Stmt} {e : Expr} {i : Nat} {T : TDs} (a : FV X m e T) (hx : ∀ {t : TE}, PE X e t → PS X st (tAsg t (gName i))) : SV X m st (sOwn i T) := by
  obtain ⟨t, p, h⟩ := a.ex
  refine ⟨_, hx p, fun F σ H env n Z E e s z q => ?_⟩
  refine h _ σ H env n _ e.ee s (a.mono _ _ _ _ (fun ds n1 q => ?_) q)
  intro b xs H1 k1 s1 nb nO hb rs
  exact z.nx _ _ _ _ (e.take (w := .lst ds) s1 k1 q.1 nb ⟨xs, hb, rs⟩) s1 q.2
/-- x.append(e) -/
def sAppend (i : Nat) (T : TD) : TDS := fun Z env n => T env n fun d n1 => ∃ ds, env[i]? = some (.own (.lst ds)) ∧ ds.length < sizeLine ∧ Z.nx (env.set i (.own (.lst (ds ++ [d])))) n1
theorem s_append {st : Stmt} {e : Expr} {i : Nat} {T : TD} (a : EV X m e T) (hx : ∀ {t : TE}, PE X e t → PS X st (tDrop (tBM X.K "list" rAppend (tVar i) (tCons t tNil)))) : SV X m st (fun Z env n => (∃ ds, env[i]? = some (.own (.lst ds))) ∧ sAppend i T Z env n) := by
  obtain ⟨t, p, h⟩ := a.ex
  refine ⟨_, hx p, fun F σ H env n Z E e s z ⟨⟨ds0, h0⟩, q⟩ => ?_⟩
  obtain ⟨b, g1, ⟨xs, g2, g5⟩, g3, g4⟩ := e.ee.own i _ h0
  refine ⟨.ref b, g1, .inl ⟨rfl, _, .inl (.inl g2)⟩, ?_⟩
  refine h _ σ H env n _ e.ee s (a.mono _ _ _ _ (fun d n1 ⟨ds, hd, hl, q⟩ => ?_) q)
  intro v H1 k1 s1 r1
  rw [h0] at hd
  cases hd
  have e1 := e.kx k1 s1
  obtain ⟨b', f1, ⟨ys, f2, f5⟩, f3, f4⟩ := e1.ee.own i _ h0
  rw [g1] at f1
  cases f1
  refine ⟨b, ys, v, rfl, rfl, f2, by rw [f5.length]; exact hl, ?_⟩
  refine z.nx _ _ _ _ (e1.put (w' := .lst (ds0 ++ [d])) h0 g1 ⟨ys ++ [v], upd_same, (f5.append (.cons r1 .nil)).keep fun c o n q => ⟨by rw [upd_ne (fun z => n (.inr (by rw [z]; exact ⟨i, _, h0, g1⟩)))]; exact q, n⟩⟩) (st_put s1 f4 (fun f z => by rw [f2] at z; cases z)) q
/-! while -/
def sWhile (c : TDb) (b : TDS) : TDS := fun Z env n => ∃ I : Nat → Sls → Nat → Prop, (∃ k, I k env n) ∧ ∀ k env n, I k env n → c env n fun t n1 => if t = true then b { nx := fun env' n' => ∃ k', k' < k ∧ I k' env' n', ct := fun env' n' => ∃ k', k' < k ∧ I k' env' n', bk := Z.nx, rt := Z.rt } env n1 else Z.nx env n1
theorem s_while {c : Expr} {body : List Stmt} {Tc : TDb} {b : TDS} {pos : Pos} (hp : PassesOwn (model X.prog X.w) X.A X.env X.xe) (hc : BV X m c Tc) (hb : SsV X m body b) : SV X m (.While c body [] pos) (sWhile Tc b) := by
  obtain ⟨tc, pc, h⟩ := hc.ex
  obtain ⟨tb, pb, h2⟩ := hb.ex
  refine ⟨_, ps_while hp pc pb, fun F σ H env n Z E e s z ⟨I, ⟨k0, i0⟩, turn⟩ => ?_⟩
  refine ⟨fun k σ' H' => ∃ env' n', EO m F σ' H' env' ∧ m.St n' H' ∧ I k env' n', ⟨k0, env, n, e, s, i0⟩, ?_⟩
  rintro k σ' H' ⟨env', n', e', s', q'⟩
  refine h _ σ' H' env' n' _ e'.ee s' (hc.mono _ _ _ _ (fun t n1 q => ?_) (turn k env' n' q'))
  intro H1 k1 s1
  have e1 := e'.kx k1 s1
  cases t with
  | false => exact iteF (z.nx _ _ _ _ e1 s1 (show Z.nx env' n1 from q))
  | true =>
    refine iteT ⟨fun σ2 H2 => ∃ env2 n2, EO m F σ2 H2 env2 ∧ m.St n2 H2 ∧ ∃ k', k' < k ∧ I k' env2 n2, fun σ2 H2 ⟨env2, n2, e2, s2, k', lt, q2⟩ => ⟨k', lt, env2, n2, e2, s2, q2⟩, ?_⟩
    refine h2 F σ' H1 env' n1 { nx := fun env' n' => ∃ k', k' < k ∧ I k' env' n', ct := fun env' n' => ∃ k', k' < k ∧ I k' env' n', bk := Z.nx, rt := Z.rt } _ e1 s1 ⟨fun σ2 H2 env2 n2 e2 s2 q2 => ⟨env2, n2, e2, s2, q2⟩, z.rt, fun σ2 H2 env2 n2 e2 s2 q2 => z.nx _ _ _ _ e2 s2 q2, fun σ2 H2 env2 n2 e2 s2 q2 => ⟨env2, n2, e2, s2, q2⟩⟩ q
end
/-! ### a def -/
def startE (N : List Str) (ds : List D) : Sls := ds.map .val ++ List.replicate (N.length - ds.length) .any
theorem rs_start {O : Addr → Prop} {H : Hp} {N : List Str} {vs : List V} {ds : List D} (r : Rs O H vs ds) {i : Nat} {d : D} (h : (startE N ds)[i]? = some (.val d)) : ∃ v, (L2.start N vs)[i]? = some (some v) ∧ R O H v d := by
  unfold startE at h
  unfold L2.start
  rw [List.getElem?_append] at h ⊢
  rw [List.length_map] at h ⊢
  rw [r.length]
  by_cases q : i < ds.length
  · rw [if_pos q] at h ⊢
    rw [List.getElem?_map] at h ⊢
    obtain ⟨v, x, h1, h2, h3⟩ := rs_lt r q
    rw [h2] at h
    rw [h1]
    cases h
    exact ⟨v, rfl, h3⟩
  · rw [if_neg q] at h
    have := List.getElem?_eq_some_iff.mp h
    obtain ⟨lt, e⟩ := this
    rw [List.getElem_replicate] at e
    cases e
theorem start_own {N : List Str} {ds : List D} {i : Nat} {w : OwnS} (h : (startE N ds)[i]? = some (.own w)) : False := by
  unfold startE at h
  rw [List.getElem?_append, List.length_map] at h
  by_cases q : i < ds.length
  · rw [if_pos q, List.getElem?_map] at h
    cases e : ds[i]? with
    | none => rw [e] at h; cases h
    | some d => rw [e] at h; cases h
  · rw [if_neg q] at h
    obtain ⟨lt, e⟩ := List.getElem?_eq_some_iff.mp h
    rw [List.getElem_replicate] at e
    cases e
theorem start_ok {m : Md} {O : Addr → Prop} {H : Hp} {N : List Str} {vs : List V} {ds : List D} (r : Rs O H vs ds) (gd : ∀ a, m.g a → O a) (old : ∀ a, O a → H a ≠ none) : EO0 m ⟨H, fun a => H a ≠ none, O⟩ (L2.start N vs) H (startE N ds) := by
  have no : ∀ a, ¬ ownA (startE N ds) (L2.start N vs) a := fun a ⟨i, w, h, _⟩ => start_own h
  refine ⟨⟨?_, fun a h => .inl (gd a h), fun a h => h.elim (old a) fun z => (no a z).elim, fun i d q => ?_, fun i w q => (start_own q).elim⟩, gd, fun a h => old a h, fun a h => h, fun b o _ _ h => h, fun a h => (no a h).elim, fun i j w x a h => (start_own h).elim⟩
  · unfold L2.start startE
    rw [List.length_append, List.length_append, List.length_map, List.length_map, List.length_replicate, List.length_replicate, r.length]
  · obtain ⟨v, h1, h2⟩ := rs_start r q
    exact ⟨v, h1, h2.keep fun b o n q => ⟨q, fun z => z.elim n (no b)⟩⟩
abbrev Zdef (K : DK) : EndD := ⟨fun _ n => K .non n, K, fun _ _ => False, fun _ _ => False⟩
section
variable {P : Program} {w : World} {K : PySem.W.Frag} {mg : Str → Option Value} {base : Heap}
/-- a def that keeps a promise over data -/
theorem fn_ok {m : Md} {x qual : Str} {st : Stmt} {f : Addr} {fd : FuncData} {N ps : List Str} {k : Nat} {T : FT} (Fn : Fun K x qual st f fd) (S : FnScope N ps (defScope st)) (len : ∀ ds n K, T ds n K → ds.length = ps.length)
    (hb : ∀ (cdv : Value) (A : Around) (outer : List Env) (s : Shared) (H : Hp) (E : XK), Room k (A.deeper (PyProof.Rows.envOfC qual (defScope st) s.heap.objs.size f cdv)) → ∃ TS : TDS, SsV (cxOf CX0 P w K mg base N qual (defScope st) f cdv A outer s H E).nox m.nox (defBody st) TS ∧ ∀ ds n K, T ds n K → TS (Zdef K) (startE N ds) n) :
    FnOk P w K mg base CX0 (k + 1) f fd ps (spM m T) := by
  refine Fn.ok S (fun vs H Q E h => ?_) (fun cdv A outer s H vs Q E hr h => ?_)
  · obtain ⟨ds, O, n, r, _, _, _, t⟩ := h
    rw [r.length]
    exact len _ _ _ t
  · obtain ⟨ds, O, n, r, gd, old, st, t⟩ := h
    obtain ⟨TS, ⟨u, p, hz⟩, ht⟩ := hb cdv A outer s H E hr
    refine ⟨u, p, hz ⟨H, fun a => H a ≠ none, O⟩ _ H _ n (Zdef (Out m O H Q)) _ ⟨start_ok (m := m.nox) r gd old, fun _ _ _ _ _ _ _ _ _ _ _ _ _ z => z.elim⟩ st ⟨fun σ H' env n' e' s' q => q .non H' (fun b o nd h => e'.kp b o (show H b ≠ none from by rw [h]; exact fun z => by cases z) nd h) s' .non, fun v H' d n' k' s' r' q => q v H' (fun b o nd h => k' b o (show H b ≠ none from by rw [h]; exact fun z => by cases z) nd h) s' r', fun σ H' env n' _ _ q => q.elim, fun σ H' env n' _ _ q => q.elim⟩ (ht ds n _ t)⟩
/-- one that changes nothing -/
theorem fn_okP {x qual : Str} {st : Stmt} {f : Addr} {fd : FuncData} {N ps : List Str} {k : Nat} {T : CD} (Fn : Fun K x qual st f fd) (S : FnScope N ps (defScope st)) (len : ∀ ds K, T ds K → ds.length = ps.length)
    (hb : ∀ (cdv : Value) (A : Around) (outer : List Env) (s : Shared) (H : Hp) (E : XK), Room k (A.deeper (PyProof.Rows.envOfC qual (defScope st) s.heap.objs.size f cdv)) → ∃ TS : TDS, SsV (cxOf CX0 P w K mg base N qual (defScope st) f cdv A outer s H E).nox noMd (defBody st) TS ∧ ∀ ds K, T ds K → TS (Zdef fun d _ => K d) (startE N ds) 0) :
    FnOk P w K mg base CX0 (k + 1) f fd ps (spP T) := by
  refine Fn.ok S (fun vs H Q E h => ?_) (fun cdv A outer s H vs Q E hr h => ?_)
  · obtain ⟨ds, O, r, _, t⟩ := h
    rw [r.length]
    exact len _ _ t
  · obtain ⟨ds, O, r, old, t⟩ := h
    obtain ⟨TS, ⟨u, p, hz⟩, ht⟩ := hb cdv A outer s H E hr
    have sm : ∀ {H'}, KK noMd ⟨H, fun a => H a ≠ none, O⟩ H' → Same H H' := fun {H'} k b o h => k b o (show H b ≠ none from by rw [h]; exact fun z => by cases z) (fun z => z) h
    refine ⟨u, p, hz ⟨H, fun a => H a ≠ none, O⟩ _ H _ 0 (Zdef fun d _ => ∀ v H', Same H H' → R O H' v d → Q v H') _ ⟨start_ok r (fun _ z => z.elim) old, fun _ _ _ _ _ _ _ _ _ _ _ _ _ z => z.elim⟩ trivial ⟨fun σ H' env n' e' s' q => q .non H' (sm e'.kp) .non, fun v H' d n' k' s' r' q => q v H' (sm k') r', fun σ H' env n' _ _ q => q.elim, fun σ H' env n' _ _ q => q.elim⟩ (ht ds _ t)⟩
end
end DL

set_option Elab.async false
set_option linter.all false
set_option maxRecDepth 100000
set_option maxHeartbeats 1000000
namespace DL
open PySem L2
section
variable {X : Cx} {m : Md}
theorem vn (i : Nat) {x : Str} {pos : Pos} (hN : X.N[i]? = some x := by rfl) (hv : Vis X.env.scope x := by first | exact Or.inl rfl | exact Or.inr (Or.inl rfl) | exact Or.inr (Or.inr rfl)) (hd : (x == ("__debug__" : Str)) = false := by decide)
    (hcd : (x == ("__classdict__" : Str)) = false := by decide) : EV X m (.Name x pos) (tName i) := v_name hN hv hd hcd
theorem v_glob {x : Str} {v : V} {d : D} {u : Value} {pos : Pos} (hg : Gl X x) (hm : X.mg x = some u) (r : RelV v u) (rd : ∀ O H, R O H v d) (hd : (x == ("__debug__" : Str)) = false := by decide) : EV X m (.Name x pos) (tConst d) := v_const (pe_glob hg hm r hd) rd
theorem v_bltn {x : Str} {v : V} {d : D} {u : Value} {pos : Pos} (hg : Gl X x) (hm : X.mg x = none) (hv : bootBuiltins x = some u) (r : RelV v u) (rd : ∀ O H, R O H v d) (hn : x ≠ "__name__" := by decide) (hd : (x == ("__debug__" : Str)) = false := by decide) : EV X m (.Name x pos) (tConst d) := v_const (pe_bltn hg hm hv r hn hd) rd
/-- x = e -/
def sSet (i : Nat) (T : TD) : TDS := fun Z env n => T env n fun d n1 => Z.nx (env.set i (.val d)) n1
theorem s_set {i : Nat} {x : Str} {e : Expr} {T : TD} {pos pos' : Pos} (hN : X.N.Nodup) (hi : X.N[i]? = some x) (hx : Loc X.env.scope x) (a : EV X m e T) (hs : swapsWith e (some (.Name x pos')) pos.line X.env = pure false := by rfl) (hf : X.fn x = true ∨ X.env.scope.names.lookup x = some .local := by first | exact .inl rfl | exact .inr rfl | assumption) :
    SV X m (.Assign [.Name x pos'] e pos) (sSet i T) := by
  obtain ⟨t, p, h⟩ := a.ex
  refine ⟨_, ps_set hN hi hx p hs hf, fun F σ H env n Z E e s z q => ?_⟩
  refine h _ σ H env n _ e.ee s (a.mono _ _ _ _ (fun d n1 q => ?_) q)
  intro v H1 k1 s1 r1
  exact z.nx _ _ _ _ ((e.kx k1 s1).set r1) s1 q
theorem s_setOwn {i : Nat} {x : Str} {e : Expr} {T : TDs} {pos pos' : Pos} (hN : X.N.Nodup) (hi : X.N[i]? = some x) (hx : Loc X.env.scope x) (a : FV X m e T) (hs : swapsWith e (some (.Name x pos')) pos.line X.env = pure false := by rfl) (hf : X.fn x = true ∨ X.env.scope.names.lookup x = some .local := by first | exact .inl rfl | exact .inr rfl | assumption) :
    SV X m (.Assign [.Name x pos'] e pos) (sOwn i T) := s_own a fun p => ps_set hN hi hx p hs hf
/-- x = [.. for ..] -/
theorem lc_parts {elt tg iter : Expr} {ifs : List Expr} {scope : Scope} {own : List (Str × Nat)} {It : TDi} {g : TG} {f : D → List (Nat × D) → Prop} {Tt : TDb} {Te : TD} (hi : IV X m tg iter It)
    (hg : ∀ (s : Shared) (H : Hp) (C : Addr) (cl : List (Str × Addr)) (fp : List Addr), TV (X.blk s H scope (compEnvC scope cl C X.env) fp) tg g f) (ht : ∀ (s : Shared) (H : Hp) (C : Addr) (cl : List (Str × Addr)) (fp : List Addr), QV (X.blk s H scope (compEnvC scope cl C X.env) fp) m.nox ifs Tt)
    (he : ∀ (s : Shared) (H : Hp) (C : Addr) (cl : List (Str × Addr)) (fp : List Addr), EV (X.blk s H scope (compEnvC scope cl C X.env) fp) m.nox elt Te) :
    ∃ (wi : TI) (tt : TT) (te : TE), PI X tg iter wi ∧ (∀ s H C cl fp, PG (X.blk s H scope (compEnvC scope cl C X.env) fp) tg g) ∧ (∀ s H C cl fp, PTs (X.blk s H scope (compEnvC scope cl C X.env) fp) ifs tt) ∧ (∀ s H C cl fp, PE (X.blk s H scope (compEnvC scope cl C X.env) fp) elt te) ∧
      ∀ O σ H env n Q, EE m O σ H env → m.St n H → fLcD It f Tt Te (own.map (·.2)) env n (FOut m O H Q) → tLc wi g tt te (own.map (·.2)) σ H Q := by
  obtain ⟨wi, pi, hwi⟩ := hi.ex
  have mt : ∀ env n K K', (∀ d n, K d n → K' d n) → Tt env n K → Tt env n K' := (ht X.s_0 (fun _ => none) 0 [] []).mono
  have me : ∀ env n K K', (∀ d n, K d n → K' d n) → Te env n K → Te env n K' := (he X.s_0 (fun _ => none) 0 [] []).mono
  refine ⟨wi, fun σ H Q => ∀ s H' C cl fp, Classical.choose (ht s H' C cl fp).ex σ H Q, fun σ H Q => ∀ s H' C cl fp, Classical.choose (he s H' C cl fp).ex σ H Q, pi, fun s H C cl fp => (hg s H C cl fp).pg,
    fun s H C cl fp => PTs.imp (Classical.choose_spec (ht s H C cl fp).ex).1 fun σ H' Q h => h s H C cl fp, fun s H C cl fp => PE.imp (Classical.choose_spec (he s H C cl fp).ex).1 fun σ H' Q h => h s H C cl fp, fun O σ H env n Q e s q => ?_⟩
  refine hwi O σ H env n _ e s (hi.mono _ _ _ _ (fun ds n1 ⟨I, i0, is, ie⟩ => ?_) q)
  intro J H1 k1 s1 ok1
  exact lc_run (e.toEE0.kx k1 s1) s1 ok1 (fun O2 H2 v d asg r hf => (hg X.s_0 (fun _ => none) 0 [] []).run O2 H2 v d asg r hf) (fun O2 σ2 H2 env2 n2 Q2 e2 s2 q2 s' H' C cl fp => (Classical.choose_spec (ht s' H' C cl fp).ex).2 O2 σ2 H2 env2 n2 Q2 e2 s2 q2) mt
    (fun O2 σ2 H2 env2 n2 Q2 e2 s2 q2 s' H' C cl fp => (Classical.choose_spec (he s' H' C cl fp).ex).2 O2 σ2 H2 env2 n2 Q2 e2 s2 q2) me I i0 is
    (fun acc n2 l i L xs H' k2 s2 nL nO hL rs => ie acc n2 l i L xs H' (k1.trans k2) s2 (kx_none k1 (fun z => nO (e.gd L (m.dg L z))) nL) nO hL rs)
theorem flc_mono {It : TDi} {f : D → List (Nat × D) → Prop} {Tt : TDb} {Te : TD} {vs : List Nat} (mi : ∀ env n K K', (∀ d n, K d n → K' d n) → It env n K → It env n K') {env : Sls} {n : Nat} {K K' : List D → Nat → Prop} (h : ∀ ds n, K ds n → K' ds n) (q : fLcD It f Tt Te vs env n K) : fLcD It f Tt Te vs env n K' :=
  mi _ _ _ _ (fun ds n1 ⟨I, a, b, c⟩ => ⟨I, a, b, fun acc n2 l i => h _ _ (c acc n2 l i)⟩) q
theorem s_setLc {i : Nat} {y : Str} {py : Pos} {elt tg iter : Expr} {ifs : List Expr} {scope : Scope} {own : List (Str × Nat)} {pos spos : Pos} {It : TDi} {g : TG} {f : D → List (Nat × D) → Prop} {Tt : TDb} {Te : TD} (hc : X.calm = true) (hN : X.N.Nodup) (hy : X.N[i]? = some y) (hyl : X.env.scope.names.lookup y = some .local)
    (hsw : swapsWith (.ListComp elt [⟨tg, iter, ifs, 0⟩] scope pos) (some (.Name y py)) spos.line X.env = pure true) (hi : IV X m tg iter It) (ok : BlkOk X.N X.env.scope scope own)
    (hg : ∀ (s : Shared) (H : Hp) (C : Addr) (cl : List (Str × Addr)) (fp : List Addr), TV (X.blk s H scope (compEnvC scope cl C X.env) fp) tg g f) (ht : ∀ (s : Shared) (H : Hp) (C : Addr) (cl : List (Str × Addr)) (fp : List Addr), QV (X.blk s H scope (compEnvC scope cl C X.env) fp) m.nox ifs Tt)
    (he : ∀ (s : Shared) (H : Hp) (C : Addr) (cl : List (Str × Addr)) (fp : List Addr), EV (X.blk s H scope (compEnvC scope cl C X.env) fp) m.nox elt Te) (hs : ∀ x, foldedSetIterable iter X.env x = pure x := by intro _; rfl) :
    SV X m (.Assign [.Name y py] (.ListComp elt [⟨tg, iter, ifs, 0⟩] scope pos) spos) (fun Z env n => fLcD It f Tt Te (own.map (·.2)) env n fun ds n1 => Z.nx (env.set i (.val (.lst ds))) n1) := by
  obtain ⟨wi, tt, te, pi, pg, pt, pe, run⟩ := lc_parts (own := own) hi hg ht he
  refine ⟨_, ps_setLc hc hN hy hyl hsw pi ok pg pt pe hs, fun F σ H env n Z E e s z q => ?_⟩
  refine run _ σ H env n _ e.ee s (flc_mono hi.mono (fun ds n1 q => ?_) q)
  intro a xs H1 k1 s1 na nO ha rs
  exact z.nx _ _ _ _ ((e.kx k1 s1).set (.lst nO ha (rs.keep fun b o n q => ⟨q, fun z => n (.inl z)⟩))) s1 q
theorem s_ownLc {i : Nat} {y : Str} {py : Pos} {elt tg iter : Expr} {ifs : List Expr} {scope : Scope} {own : List (Str × Nat)} {pos spos : Pos} {It : TDi} {g : TG} {f : D → List (Nat × D) → Prop} {Tt : TDb} {Te : TD} (hc : X.calm = true) (hN : X.N.Nodup) (hy : X.N[i]? = some y) (hyl : X.env.scope.names.lookup y = some .local)
    (hsw : swapsWith (.ListComp elt [⟨tg, iter, ifs, 0⟩] scope pos) (some (.Name y py)) spos.line X.env = pure true) (hi : IV X m tg iter It) (ok : BlkOk X.N X.env.scope scope own)
    (hg : ∀ (s : Shared) (H : Hp) (C : Addr) (cl : List (Str × Addr)) (fp : List Addr), TV (X.blk s H scope (compEnvC scope cl C X.env) fp) tg g f) (ht : ∀ (s : Shared) (H : Hp) (C : Addr) (cl : List (Str × Addr)) (fp : List Addr), QV (X.blk s H scope (compEnvC scope cl C X.env) fp) m.nox ifs Tt)
    (he : ∀ (s : Shared) (H : Hp) (C : Addr) (cl : List (Str × Addr)) (fp : List Addr), EV (X.blk s H scope (compEnvC scope cl C X.env) fp) m.nox elt Te) (hs : ∀ x, foldedSetIterable iter X.env x = pure x := by intro _; rfl) :
    SV X m (.Assign [.Name y py] (.ListComp elt [⟨tg, iter, ifs, 0⟩] scope pos) spos) (sOwn i (fLcD It f Tt Te (own.map (·.2)))) := by
  obtain ⟨wi, tt, te, pi, pg, pt, pe, run⟩ := lc_parts (own := own) hi hg ht he
  refine ⟨_, ps_setLc hc hN hy hyl hsw pi ok pg pt pe hs, fun F σ H env n Z E e s z q => ?_⟩
  refine run _ σ H env n _ e.ee s (flc_mono hi.mono (fun ds n1 q => ?_) q)
  intro a xs H1 k1 s1 na nO ha rs
  exact z.nx _ _ _ _ (e.take (w := .lst ds) s1 k1 q.1 na ⟨xs, ha, rs⟩) s1 q.2
/-! slices -/
structure OV (X : Cx) (m : Md) (e : Option Expr) (T : Sls → Nat → (Option Int → Nat → Prop) → Prop) : Prop where
  mono : ∀ env n K K', (∀ d n, K d n → K' d n) → T env n K → T env n K'
  ex : ∃ t, PO X e t ∧ ∀ O σ H env n (Q : Option Int → Hp → Prop), EE m O σ H env → m.St n H → T env n (fun o n' => ∀ H', KX m.d H H' → m.St n' H' → Q o H') → t σ H Q
theorem o_none : OV X m none (fun _ n K => K none n) := ⟨fun _ n _ _ h k => h _ _ k, _, po_none, fun O σ H env n Q e s k => k H KX.refl s⟩
theorem o_some {e : Expr} {T : TD} (a : EV X m e T) : OV X m (some e) (fun env n K => T env n fun d n1 => ∃ i, d = .int i ∧ K (some i) n1) := by
  obtain ⟨t, p, h⟩ := a.ex
  refine ⟨fun env n K K' hk q => a.mono _ _ _ _ (fun d n1 ⟨i, e, q⟩ => ⟨i, e, hk _ _ q⟩) q, _, po_some p, fun O σ H env n Q e s q => ?_⟩
  refine h O σ H env n _ e s (a.mono _ _ _ _ (fun d n1 ⟨i, ed, q⟩ => ?_) q)
  intro v H1 k1 s1 r1
  subst ed
  cases r1
  exact ⟨i, rfl, q H1 k1 s1⟩
structure SlD (r : V → Option Int → Option Int → Hp → VK → Prop) (rd : D → Option Int → Option Int → (D → Prop) → Prop) : Prop where
  mono : ∀ x lo hi K K', (∀ d, K d → K' d) → rd x lo hi K → rd x lo hi K'
  run : ∀ (m : Md) (O : Addr → Prop) (H : Hp) (n : Nat) (v : V) (x : D) (lo hi : Option Int) (Q : VK), (∀ a, m.g a → O a) → (∀ a, O a → H a ≠ none) → m.St n H → R O H v x → rd x lo hi (fun d => Out m O H Q d n) → r v lo hi H Q
def tSlD (rd : D → Option Int → Option Int → (D → Prop) → Prop) (Ta : TD) (Tl Th : Sls → Nat → (Option Int → Nat → Prop) → Prop) : TD := fun env n K => Ta env n fun x n1 => Tl env n1 fun lo n2 => Th env n2 fun hi n3 => rd x lo hi fun d => K d n3
theorem v_slice {r : V → Option Int → Option Int → Hp → VK → Prop} {rd : D → Option Int → Option Int → (D → Prop) → Prop} {e : Expr} {lo hi : Option Expr} {Ta : TD} {Tl Th : Sls → Nat → (Option Int → Nat → Prop) → Prop} {p2 pos : Pos} (hr : SlR X r) (hd : SlD r rd) (a : EV X m e Ta) (b : OV X m lo Tl) (c : OV X m hi Th) : EV X m (.Subscript e (.Slice lo hi none p2) pos) (tSlD rd Ta Tl Th) := by
  obtain ⟨ta, pa, ha⟩ := a.ex
  obtain ⟨tb, pb, hb⟩ := b.ex
  obtain ⟨tc, pc, hc⟩ := c.ex
  refine ⟨fun env n K K' hk q => a.mono _ _ _ _ (fun d n1 q => b.mono _ _ _ _ (fun d n1 q => c.mono _ _ _ _ (fun d n1 q => hd.mono _ _ _ _ _ (fun d q => hk _ _ q) q) q) q) q, _, pe_slice hr pa pb pc, fun O σ H env n Q e s q => ?_⟩
  refine ha O σ H env n _ e s (a.mono _ _ _ _ (fun d n1 q => ?_) q)
  intro v H1 k1 s1 r1
  have e1 := e.kx k1 s1
  refine hb O σ H1 env n1 _ e1 s1 (b.mono _ _ _ _ (fun lo' n2 q => ?_) q)
  intro H2 k2 s2
  have e2 := e1.kx k2 s2
  refine hc O σ H2 env n2 _ e2 s2 (c.mono _ _ _ _ (fun hi' n3 q => ?_) q)
  intro H3 k3 s3
  have e3 := e2.kx k3 s3
  have up : ∀ {A B : Hp}, KX m.d A B → KX O A B := fun k => k.mono fun x h => e.gd x (m.dg x h)
  exact hd.run m O H3 n3 v d lo' hi' Q e3.gd e3.old s3 ((r1.kx (up k2)).kx (up k3)) (hd.mono _ _ _ _ _ (fun d o => out_trans ((k1.trans k2).trans k3) o) q)
def cutD (l : List D) (lo hi : Option Int) : List D := (l.drop (HT.sIx l.length 0 lo)).take (HT.sIx l.length l.length hi - HT.sIx l.length 0 lo)
theorem rs_cut {O : Addr → Prop} {H : Hp} {xs : List V} {ds : List D} (r : Rs O H xs ds) (lo hi : Option Int) : Rs O H (cutV xs lo hi) (cutD ds lo hi) := by
  unfold cutV cutD
  rw [r.length]
  exact (r.drop _).take _
def dSlL : D → Option Int → Option Int → (D → Prop) → Prop := fun x lo hi K => ∃ l, x = .lst l ∧ K (.lst (cutD l lo hi))
theorem l_list {KK : PySem.W.Frag} : SlD (rSlL KK) dSlL where
  mono := fun x lo hi K K' h ⟨l, a, k⟩ => ⟨l, a, h _ k⟩
  run := fun m O H n v x lo hi Q gd old s r ⟨l, a, k⟩ => by
    subst a
    cases r with
    | lst n1 h1 s1 => exact ⟨_, _, rfl, .inl (.inl h1), fun p hp => out_new k s hp (r_lst hp (new_free old hp) (rs_cut s1 lo hi))⟩
def dSlT : D → Option Int → Option Int → (D → Prop) → Prop := fun x lo hi K => ∃ l, x = .tup l ∧ K (.tup (cutD l lo hi))
theorem l_tup {KK : PySem.W.Frag} : SlD (rSlA KK) dSlT where
  mono := fun x lo hi K K' h ⟨l, a, k⟩ => ⟨l, a, h _ k⟩
  run := fun m O H n v x lo hi Q gd old s r ⟨l, a, k⟩ => by
    subst a
    cases id r with
    | tup n1 h1 s1 =>
      refine ⟨_, _, rfl, .inl (.inl h1), fun w => ?_, fun _ p hp => out_new k s hp (r_tup hp (new_free old hp) (rs_cut s1 lo hi))⟩
      rw [s1.length] at w
      have e : cutD l lo hi = l := by unfold cutD; rw [w.1, w.2, List.drop_zero, Nat.sub_zero, List.take_length]
      rw [e] at k
      exact k _ H KX.refl s r
def dSlS : D → Option Int → Option Int → (D → Prop) → Prop := fun x lo hi K => ∃ z, x = .str z ∧ z.length ≤ sizeLine ∧ K (.str (cutS z lo hi))
theorem l_str : SlD rSlS dSlS where
  mono := fun x lo hi K K' h ⟨l, a, b, k⟩ => ⟨l, a, b, h _ k⟩
  run := fun m O H n v x lo hi Q gd old s r ⟨l, a, b, k⟩ => by
    subst a
    cases r
    exact ⟨_, rfl, b, k _ H KX.refl s (.str _)⟩
end
end DL

set_option Elab.async false
set_option linter.all false
set_option maxRecDepth 100000
set_option maxHeartbeats 1000000
/-! DL10: repr(x) of data, dicts among them, where no other repr is under way -/
namespace DL
open PySem L2
/-! ### data as Python's -/
mutual
def pd : D → PyData
  | .non => .none
  | .bl b => .bool b
  | .int i => .int i
  | .str s => .str s
  | .lst l => .list (pds l)
  | .tup l => .tuple (pds l)
  | .dic l => .dict (pdk l)
  | .ptr _ | .ty _ | .obj _ _ | .exc _ _ _ _ | .exv _ _ | .exn _ => .none
def pds : List D → List PyData
  | [] => []
  | d :: r => pd d :: pds r
def pdk : List (Key × D) → List (PyData × PyData)
  | [] => []
  | (.inl i, d) :: r => (.int i, pd d) :: pdk r
  | (.inr x, d) :: r => (.str x, pd d) :: pdk r
end
mutual
/-- no address, no class, no instance in it -/
def okD : D → Bool
  | .non => true
  | .bl _ => true
  | .int _ => true
  | .str _ => true
  | .lst l => okDs l
  | .tup l => okDs l
  | .dic l => okDk l
  | .ptr _ | .ty _ | .obj _ _ | .exc _ _ _ _ | .exv _ _ | .exn _ => false
def okDs : List D → Bool
  | [] => true
  | d :: r => okD d && okDs r
def okDk : List (Key × D) → Bool
  | [] => true
  | (_, d) :: r => okD d && okDk r
end
section
variable {X : Cx} {pins : List (Addr × Obj)} {σ : L2.St} {H : Hp} {s : Shared} {O : Addr → Prop}
theorem key_reads {P : Program} {w : World} {h : Heap} {k : Key} {u : Value} (e : (mixKind P w).is k u = true) : Reads h u (match k with | .inl i => .int i | .inr x => .str x) [] := by
  rcases keyIs_shape (show keyIs k u = true from e) with ⟨i, t, rfl, rfl⟩ | ⟨x, t, rfl, rfl⟩
  · exact .int i t
  · exact .str x t
/-- the dict of modules is in the base -/
def SysB (X : Cx) : Prop := ∃ o, X.base.get? sysModules = some o
theorem not_sys (S : SysB X) (I : Inv X pins σ H s) {a : Addr} {o : HO} (e : H a = some o) : a ≠ sysModules := fun z => by
  obtain ⟨u, h3⟩ := S
  have h4 := (I.bs _ _ h3).2
  rw [← z, e] at h4
  cases h4
theorem rk_reads {P : Program} {w : World} {h : Heap} : ∀ {es : List DictEntry} {vs : List (Key × Value)} {l : List (Key × D)}, Pairs (mixKind P w) es vs → vs.map (·.1) = l.map (·.1) → ReadsAll h (es.map (·.key)) ((pdk l).map (·.1)) []
  | [], _, [], .nil, _ => .nil
  | _, _, [], .cons _ _ _, e => by cases e
  | _, _, _ :: _, .nil, e => by cases e
  | _, _, (k, d) :: l, .cons (kv := kv) h1 h2 r, e => by
    injection e with e1 e2
    have e1' : kv.1 = k := e1
    rw [e1'] at h1
    have ih := rk_reads (h := h) r e2
    have kr := key_reads (h := h) h1
    cases k with
    | inl i => exact .cons kr ih
    | inr x => exact .cons kr ih
theorem rk_vals {P : Program} {w : World} {h : Heap} : ∀ {es : List DictEntry} {vs : List (Key × Value)}, Pairs (mixKind P w) es vs → es.map (·.val) = vs.map (·.2)
  | _, _, .nil => rfl
  | _, _, .cons _ h2 r => by rw [List.map_cons, List.map_cons, h2, rk_vals (h := h) r]
mutual
theorem R.reads (S : SysB X) (I : Inv X pins σ H s) : ∀ (d : D) (v : V) (u : Value), R O H v d → okD d = true → RelV v u → ∃ as, Reads s.heap u (pd d) as ∧ sysModules ∉ as
  | .non, _, _, h, _, r => by
    cases h
    cases r
    exact ⟨_, by rw [pd]; exact .none, List.not_mem_nil⟩
  | .bl b, _, _, h, _, r => by
    cases h
    cases r
    exact ⟨_, by rw [pd]; exact .bool b, List.not_mem_nil⟩
  | .int i, _, _, h, _, r => by
    cases h
    obtain ⟨t, rfl⟩ := r
    exact ⟨_, by rw [pd]; exact .int i t, List.not_mem_nil⟩
  | .str x, _, _, h, _, r => by
    cases h
    obtain ⟨t, rfl⟩ := r
    exact ⟨_, by rw [pd]; exact .str x t, List.not_mem_nil⟩
  | .ptr _, _, _, _, z, _ => by rw [okD] at z; cases z
  | .ty _, _, _, _, z, _ => by rw [okD] at z; cases z
  | .obj _ _, _, _, _, z, _ => by rw [okD] at z; cases z
  | .exc _ _ _ _, _, _, _, z, _ => by rw [okD] at z; cases z
  | .exv _ _, _, _, _, z, _ => by rw [okD] at z; cases z
  | .exn _, _, _, _, z, _ => by rw [okD] at z; cases z
  | .lst ds, _, _, h, z, r => by
    cases h with
    | lst hn hs ha =>
      cases r
      obtain ⟨its, rv, ⟨o, n, ho, hc, _, hd⟩, _⟩ := I.list (.inl (.inl hs))
      rw [okD] at z
      obtain ⟨as, hr, hx⟩ := Rs.reads S I ds _ its ha z rv
      rw [pd]
      exact ⟨_, .list ho hc hd hr, fun m => (List.mem_cons.mp m).elim (fun e => not_sys S I hs e.symm) hx⟩
  | .tup ds, _, _, h, z, r => by
    cases h with
    | tup hn hs ha =>
      cases r
      obtain ⟨its, rv, ⟨o, ho, hc, n, hd⟩, _⟩ := I.tuple (.inl (.inl hs))
      rw [okD] at z
      obtain ⟨as, hr, hx⟩ := Rs.reads S I ds _ its ha z rv
      rw [pd]
      exact ⟨_, .tuple ho hc hd hr, hx⟩
  | .dic ds, _, _, h, z, r => by
    cases h with
    | dic hn hs ha =>
      cases r
      obtain ⟨_, _, vs, rel, o, es, ep, ho, hx, hd, _, hp, _⟩ := dk_of I.hok hs
      rw [okD] at z
      obtain ⟨bs, hr, hb, hk⟩ := Rk.reads S I ds _ vs ha z rel
      have h1 : ReadsAll s.heap (es.toList.map (·.key)) ((pdk ds).map (·.1)) [] := rk_reads hp hk
      rw [← rk_vals (h := s.heap) hp] at hr
      rw [pd]
      refine ⟨_, .dict ho hx.1 hd h1 hr, fun m => ?_⟩
      rcases List.mem_cons.mp m with e | m
      · exact not_sys S I hs e.symm
      · exact hb (by simpa using m)
theorem Rs.reads (S : SysB X) (I : Inv X pins σ H s) : ∀ (ds : List D) (vs : List V) (us : List Value), Rs O H vs ds → okDs ds = true → Vals vs us → ∃ as, ReadsAll s.heap us (pds ds) as ∧ sysModules ∉ as
  | [], _, _, h, _, r => by
    cases h
    cases r
    exact ⟨_, by rw [pds]; exact .nil, List.not_mem_nil⟩
  | d :: ds, _, _, h, z, r => by
    cases h with
    | cons h1 h2 =>
      cases r with
      | cons r1 r2 =>
        rw [okDs, Bool.and_eq_true] at z
        obtain ⟨as, ha, na⟩ := R.reads S I d _ _ h1 z.1 r1
        obtain ⟨bs, hb, nb⟩ := Rs.reads S I ds _ _ h2 z.2 r2
        rw [pds]
        exact ⟨_, .cons ha hb, fun m => (List.mem_append.mp m).elim na nb⟩
theorem Rk.reads (S : SysB X) (I : Inv X pins σ H s) : ∀ (ds : List (Key × D)) (vs : List (Key × V)) (us : List (Key × Value)), Rk O H vs ds → okDk ds = true → KV vs us → ∃ as, ReadsAll s.heap (us.map (·.2)) ((pdk ds).map (·.2)) as ∧ sysModules ∉ as ∧ us.map (·.1) = ds.map (·.1)
  | [], _, _, h, _, r => by
    cases h
    cases r
    exact ⟨_, by rw [pdk]; exact .nil, List.not_mem_nil, rfl⟩
  | (k, d) :: ds, _, _, h, z, r => by
    cases h with
    | cons h1 h2 =>
      cases r with
      | cons r1 r2 =>
        rw [okDk, Bool.and_eq_true] at z
        obtain ⟨as, ha, na⟩ := R.reads S I d _ _ h1 z.1 r1.2
        obtain ⟨bs, hb, nb, e⟩ := Rk.reads S I ds _ _ h2 z.2 r2
        refine ⟨_, ?_, fun m => (List.mem_append.mp m).elim na nb, ?_⟩
        · cases k with
          | inl i => rw [pdk]; exact .cons ha hb
          | inr x => rw [pdk]; exact .cons ha hb
        · rw [List.map_cons, List.map_cons, e]
          exact congrArg (· :: _) r1.1.symm
end
end
/-! ### repr -/
/-- what repr can tell -/
def Told (d : D) : Prop := okD d = true ∧ (pd d).showable = true ∧ (pd d).depth ≤ 150 ∧ (pd d).shown.length ≤ sizeLine
def rRepr : List V → Hp → VK → Prop := fun vs H Q => ∃ O v d, vs = [v] ∧ R O H v d ∧ Told d ∧ Q (.str (pd d).shown) H
def cRepr : CD := fun xs K => ∃ d, xs = [d] ∧ Told d ∧ K (.str (pd d).shown)
theorem k_repr : CallD rRepr cRepr where
  mono := fun xs K K' h ⟨d, a, b, k⟩ => ⟨d, a, b, h _ k⟩
  run := fun m O H n vs xs Q gd old s r ⟨d, a, b, k⟩ => by
    subst a
    cases r with
    | cons r1 r2 =>
      cases r2
      exact ⟨O, _, d, rfl, r1, b, k _ H KX.refl s (.str _)⟩
theorem call_repr {X : Cx} (S : SysB X) (hg : X.A.guards = some []) (hr : X.A.units + 200 < cLine) : CallR X (.builtin "repr") rRepr := by
  intro pins s σ H vs us Q I r h
  obtain ⟨O, v, d, rfl, rd, ⟨hp, hs, hd, hz⟩, q⟩ := h
  cases r with
  | cons r1 r2 =>
    cases r2
    obtain ⟨as, ra, na⟩ := R.reads S I d v _ rd hp r1
    have hu : X.A.units + ((pd d).depth + 1) < cLine := by omega
    cases rd with
    | non =>
      cases r1
      exact PySem.P.repr_of_none ⟨.str _, H, I.tok _, ⟨_, rfl⟩, q⟩
    | bl b =>
      cases r1
      exact PySem.P.repr_of_bool ⟨.str _, H, I.tok _, ⟨_, by cases b <;> rfl⟩, q⟩
    | int i =>
      obtain ⟨t, rfl⟩ := r1
      exact PySem.P.repr_of_int (by rw [pd] at hs; simpa [PyData.showable] using hs) ⟨.str _, H, I.tok _, ⟨_, rfl⟩, q⟩
    | str x =>
      obtain ⟨t, rfl⟩ := r1
      exact PySem.P.repr_of_str ⟨.str _, H, I.tok _, ⟨_, rfl⟩, q⟩ (by rw [pd] at hz; simpa [PyData.shown] using hz)
    | ptr a => rw [okD] at hp; cases hp
    | ty a => rw [okD] at hp; cases hp
    | obj => rw [okD] at hp; cases hp
    | exc => rw [okD] at hp; cases hp
    | exv => rw [okD] at hp; cases hp
    | exn => rw [okD] at hp; cases hp
    | lst hn e ha =>
      cases r1
      exact repr_of_reads' ra hs (fun _ => na) hg hu (fun _ _ e => e) (fun h' u tk hk => ⟨.str _, H, I.kept hk, ⟨_, rfl⟩, q⟩) hz
    | tup hn e ha =>
      cases r1
      exact repr_of_reads' ra hs (fun _ => na) hg hu (fun _ _ e => e) (fun h' u tk hk => ⟨.str _, H, I.kept hk, ⟨_, rfl⟩, q⟩) hz
    | dic hn e ha =>
      cases r1
      exact repr_of_reads' ra hs (fun _ => na) hg hu (fun _ _ e => e) (fun h' u tk hk => ⟨.str _, H, I.kept hk, ⟨_, rfl⟩, q⟩) hz
end DL

set_option Elab.async false
set_option linter.all false
set_option maxRecDepth 100000
set_option maxHeartbeats 1000000
/-! DL11: own errors over any built-in class: made, raised; isinstance of a caught one -/
namespace DL
open PySem L2
/-! ### an own error over any built-in base, with its own __init__ -/
/-- the class at C stands right over the built-in class B -/
structure OexB (K : PySem.W.Frag) (C : Addr) (B n i : String) (bm : List Value) : Prop where
  base : ExcBaseFacts B n i bm
  cls : ∃ nm q N bs sn sub ab col dd k0 k1 k2 k3 k5, K.lookup C = some (excClassObj nm q C N bs bm true sn sub ab col dd k0 k1 k2 k3 k5 n)
  pass : ∀ self, PySem.refuseLoop self "__setattr__" bm = pure ()
  obj : bm.contains (.type "object") = true
  sa : PySem.W.findIn K (.ref C) "__setattr__" = some (some (.builtin "object.__setattr__"))
  exC : PySem.W.subIn K (.ref C) (.type "BaseException") = some true
  tyC : PySem.W.typeIn K (.ref C) = some (.type "type")
  kC : PySem.W.keepIn K (.ref C) = true
section
open PySem PySem.Spec PyProof.Rows PySem.W PySem.Calls PySem.HandSPX Builtin Builtin.ObjectAttr
variable {prog : Program} {w : World} {A : Around} {R : Result → Shared → Prop} {hp : Heap} {g : Array GenState} {d : Drawn} {t : Nat} {os : OsState}
theorem first_store {KK : W.Frag} {name : Str} {tk : Tok} {v : Value} {x C : Addr} {fv : Array Value} {cd : ClassData} {bm : List Value}
    (X : KK.In hp) (hx : hp.get? x = some { cls := .ref C, data := .fields fv }) (hcd : W.clsIn KK C = some cd) (hm : cd.mro = .ref C :: bm) (hps : ∀ self, refuseLoop self "__setattr__" bm = pure ()) (hob : bm.contains (.type "object") = true)
    (hh : cd.hasDict = true) (ha : W.findIn KK (.ref C) name = some none)
    (hq : ∀ h' tk' dx, (∀ b o, b ≠ x → hp.get? b = some o → h'.get? b = some o) → hp.objs.size ≤ dx → dx ≠ x → h'.get? x = some { cls := .ref C, dict := some dx, data := .fields fv } →
      h'.Ns1 dx (fun y => if y = name then some v else none) → R (.ok (.ret .none)) ⟨h', g, d, tk', os⟩) :
    codeAny (model prog w) A (.call (.builtin "object.__setattr__") ⟨[.ref x, .str name tk, v], []⟩) R ⟨hp, g, d, t, os⟩ := by
  have J : W.InstAt hp x { cls := .ref C, data := .fields fv } C none := ⟨hx, rfl, rfl, trivial⟩
  have nx : hp.objs.size ≠ x := fun z => Nat.lt_irrefl _ (z ▸ Heap.lt_size hx)
  have inObj : W.mroIn KK C (.type "object") = some true := by
    unfold W.mroIn
    rw [hcd, Option.bind_some, hm, if_neg (by simp), List.contains_cons, hob, Bool.or_true]
  have isObj : W.Looks (model prog w) hp (isInstance (.ref x) (.type "object")) true := J.type.andThen (W.looks_mroIn X inObj)
  have SF := F.store_object
  refine codeAny_call_builtin SF.slot.plain SF.entry (@W.check_slot (model prog w) _ _ ⟨hp, g, d, t, os⟩ "object.__setattr__" "object" "__setattr__" (.ref x) [.str name tk, v] [] _ SF.kind SF.split isObj (SF.args (.ref x) (.str name tk) v) ?_)
  have theMro : W.Looks (model prog w) hp (mroOf (.ref C)) cd.mro := (W.looks_clsIn X hcd).andThen .now
  have noTaker : W.Looks (model prog w) hp (storeTaker? none) none := .now
  have theCls : W.Looks (model prog w) hp (classData C) cd := W.looks_clsIn X hcd
  have goes : ∀ self, refuseLoop self "__setattr__" cd.mro = pure () := fun self => by rw [hm, refuseLoop_ref]; exact hps self
  rw [W.osa_eq, refuse_eq]
  refine wpAny_bind (wpAny_bind (J.type.at (wpAny_bind (theMro.at ?_))))
  rw [goes]
  refine wpAny_pure (wpAny_bind (J.type.at (wpAny_bind ((W.looks_findIn X ha).at (wpAny_bind (noTaker.at ?_))))))
  show wpAny _ _ (storeInOwnDict (.ref x) (.ref C) (.str name tk) name v false) _ _ _
  obtain ⟨nm, bs, mro, ns, qn, hd, sn, sb, ab, col, del⟩ := cd
  dsimp only at hh
  subst hh
  unfold storeInOwnDict ownDictForStores
  repeat (first | with_reducible refine store_in_new ?_ ?_ | with_reducible refine wpAny_loadPart_at hx ?_ | with_reducible refine theCls.at ?_ | wp_step)
  · exact ⟨_, #[], _, (Heap.get?_update_ne _ _ _ _ nx).trans (Heap.get?_push_at rfl rfl), rfl, fun e he => absurd he (by simp), fun _ => rfl⟩
  · intro h' tk' hn' hs
    have hx1 : (hp.push { cls := .type "dict", data := .dict #[] }).get? x = some { cls := .ref C, data := .fields fv } := Heap.get?_push_of_some _ hx
    exact hq h' tk' hp.objs.size (fun b o hb ho => (hs.2 b (Nat.ne_of_lt (Heap.lt_size ho))).trans ((Heap.get?_update_ne _ _ _ _ hb).trans (Heap.get?_push_of_some _ ho))) (Nat.le_refl _) nx ((hs.2 x nx.symm).trans (Heap.get?_update_self _ hx1 rfl)) hn'
end
section
open PySem PySem.Spec PyProof.Rows
variable {X : Cx} {pins : List (Addr × Obj)} {σ : L2.St} {H : Hp} {s : Shared} {a C : Addr} {f : Str} {y : V} {u : Value} {B n i : String} {bm : List Value}
theorem first_field {Q : Unit → Shared → Prop} {E : Value → Shared → Prop} {A : Around} (T : OexB X.K C B n i bm) (I : Inv X pins σ H s) (e : H a = some (exo a C none)) (hno : PySem.W.findIn X.K (.ref C) f = some none) (ry : RelV y u)
    (h : ∀ dx s', H dx = none → dx ≠ a → Inv X pins σ (upd (upd H dx (exd dx [(f, y)])) a (exo a C (some dx))) s' → Q () s') : wpAny (model X.prog X.w) A (setAttr (.ref a) f u) Q E s := by
  obtain ⟨nm, q, N, bs, sn, sub, ab, col, dd, k0, k1, k2, k3, k5, hC⟩ := T.cls
  have hcl : PySem.W.clsIn X.K C = some { name := nm, bases := bs, mro := .ref C :: bm, ns := N, qualname := q, hasDict := true, slotNames := sn, subclasses := sub, abstract := ab, collection := col, hasDel := false } := by
    unfold PySem.W.clsIn
    rw [hC]
  obtain ⟨t1, ho⟩ := exo_at I.hok e
  obtain ⟨hp, g, d, t, os⟩ := s
  refine PySem.W.set_plain I.kIn (ox := { cls := .ref C, dict := none, data := .fields #[.ref t1, .none, .none, .none, .bool false, .none] }) (od := none) ⟨ho, rfl, rfl, trivial⟩ T.sa ?_
  refine first_store I.kIn ho hcl rfl T.pass T.obj rfl hno fun h' tk' dx k dn dne hx hn => ?_
  have hnd : H dx = none := I.hok.fresh dn
  have offd : ∀ {b : Addr} {o : Obj}, hp.get? b = some o → b ≠ dx := fun q z => Nat.lt_irrefl _ (Nat.lt_of_lt_of_le (Heap.lt_size q) (z ▸ dn))
  have offa : ∀ {b : Addr}, H b = none → b ≠ a := fun n z => by
    rw [z, e] at n
    cases n
  have two : ∀ {b : Addr}, b ≠ a → b ≠ dx → (upd (upd H dx (exd dx [(f, y)])) a (exo a C (some dx))) b = H b := fun na nd => by rw [upd_ne na, upd_ne nd]
  have un : Un X.fs [] H (upd (upd H dx (exd dx [(f, y)])) a (exo a C (some dx))) hp h' := {
    keep := fun b o q n _ _ => k b o (offa n) q
    slot := fun b o q n _ _ => ⟨o.slots, k b o (offa n) q⟩
    free := fun b o q n _ => (two (offa n) (offd q)).trans n
    there := fun b o q _ => by
      by_cases hb : b = a
      · exact ⟨_, by rw [hb]; exact hx⟩
      · exact ⟨o, k b o hb q⟩
    tups := fun b xs q => (two (at_ne e q exo_tup) (ne_of_none q hnd)).trans q
    frzs := fun b o v q => (two (at_ne e q exo_frz) (ne_of_none q hnd)).trans q
    tbls := fun b ps q => ⟨#[], by rw [two (at_ne e q exo_tbl) (ne_of_none q hnd), q]; simp⟩ }
  refine h dx _ hnd dne (I.un (t' := tk') un fun b o q => ?_)
  by_cases hb : b = a
  · subst hb
    rw [upd_same] at q
    cases q
    exact exo_ok hx
  by_cases hd : b = dx
  · subst hd
    rw [upd_ne hb, upd_same] at q
    cases q
    exact exd_ok hn (relO_put (fs := []) ry fun g => True.intro)
  rw [two hb hd] at q
  refine (I.hok b o q).stay (fun c v hc z => k c v ?_ z) (fun c hc => (two (at_ne e hc exo_own) (ne_of_none hc hnd)).trans hc) (fun c xs hc => (two (at_ne e hc exo_tup) (ne_of_none hc hnd)).trans hc)
  rcases hc with hc | hc
  · rw [hc]
    exact hb
  · exact at_ne e hc exo_own
/-- self.f = e, the first field -/
def tOstB (K : PySem.W.Frag) (B n i : String) (bm : List Value) (f : Str) (to te : TE) : TS := fun D σ H => te σ H fun y H1 => to σ H1 fun x H2 => ∃ a C : Addr, x = .ref a ∧ OexB K C B n i bm ∧ PySem.W.findIn K (.ref C) f = some none ∧
  H2 a = some (exo a C none) ∧ ∀ dx, H2 dx = none → dx ≠ a → D.nx σ (upd (upd H2 dx (exd dx [(f, y)])) a (exo a C (some dx)))
theorem ps_ostB {o e : Expr} {to te : TE} {p' pos : Pos} (ho : PE X o to) (he : PE X e te) (hs : swapsWith e (some (.Attribute o f p')) pos.line X.env = pure false := by rfl) : PS X (.Assign [.Attribute o f p'] e pos) (tOstB X.K B n i bm f to te) := by
  refine ⟨fun pins s σ H D I h => ?_⟩
  refine plainObj_wpAny_Assign_Attribute (thn (he.run pins s σ H _ I h) fun v s1 ⟨y, H1, I1, r1, q1⟩ => thn (ho.run pins s1 σ H1 _ I1 q1) fun u s2 ⟨x, H2, I2, r2, a, C, ex, T, hno, ea, q⟩ => ?_) hs
  subst ex
  obtain rfl : u = Value.ref a := r2
  exact first_field T I2 ea hno r1 fun dx s' nx ne J => ⟨σ, _, J, q dx nx ne⟩
theorem pmk_oexB {CX : CXT} {x : Str} {fI : Addr} {k : Nat} {fd : FuncData} {ps : List Str} {sp : Sp} {ds : List Value} {dvs : List V} {e : Expr} {es : List Expr} {ta : TA} {p pos : Pos} (T : OexB X.K C B n i bm) (iC : PySem.W.findIn X.K (.ref C) "__init__" = some (some (.ref fI))) (tI : PySem.W.typeIn X.K (.ref fI) = some (.type "function"))
    (F1 : FnOk X.prog X.w X.K X.mg X.base CX k fI fd ps sp) (hr : Room (k + 1) X.A) (hb : Binds X.K fd ps ds) (hd : Vals dvs ds) (hx : Passes CX X (fun _ _ _ => False)) (hg : Gl X x) (hm : X.mg x = some (.ref C)) (ha : PA X (e :: es) ta)
    (hdb : (x == ("__debug__" : Str)) = false := by decide) (he : starEach (e :: es) X.env = (false, eval e X.env) :: starEach es X.env := by rfl) (hpl : (backTo pos (starEach es X.env)).any (·.1) = false := by rfl) :
    PMk X (.Call (.Name x p) (e :: es) [] pos) (tMkO C sp dvs ta) := by
  intro pins s σ H Q I h
  obtain ⟨nm, q, N, bs, sn, sub, ab, col, dd, k0, k1, k2, k3, k5, hC⟩ := T.cls
  refine wpAny_Call_Name_kw (ld_glob I hg hm ?_ hdb)
  refine PySem.W.callWith_K (h₀ := X.base) I.ok.mod.kin T.kC (thn (ha.run pos pins s σ H _ I h) fun us s1 ⟨vs, H1, I1, r1, hz, q1⟩ => ⟨I1.kIn, ?_⟩) he hpl
  show wpAny _ _ (call (.ref C) us) _ _ _
  obtain ⟨hp, g, dr, tk, os⟩ := s1
  have hsz : hp.objs.size ≤ hp.objs.size + 1 := Nat.le_succ _
  have hq := q1 (hp.objs.size + 1) (I1.hok.fresh hsz)
  have hget : ((hp.push (PySem.W.kdv_tup us)).push (PySem.HandSPX.excO C hp.objs.size)).get? (hp.objs.size + 1) = some (PySem.HandSPX.excO C hp.objs.size) := by heap_get
  have kk : ∀ b o, hp.get? b = some o → ((hp.push (PySem.W.kdv_tup us)).push (PySem.HandSPX.excO C hp.objs.size)).get? b = some o := fun b o z => Heap.get?_push_of_some _ (Heap.get?_push_of_some _ z)
  have I2 := I1.laid (t' := tk) (a := hp.objs.size + 1) (o := exo (hp.objs.size + 1) C none) (h' := (hp.push (PySem.W.kdv_tup us)).push (PySem.HandSPX.excO C hp.objs.size)) kk hsz (exo_ok hget)
  have r2 : Vals (V.ref (hp.objs.size + 1) :: (vs ++ dvs)) (Value.ref (hp.objs.size + 1) :: (us ++ ds)) := .cons rfl (r1.append hd)
  have hl : (Value.ref (hp.objs.size + 1) :: us ++ ds).length = ps.length := (F1.len _ _ _ _ hq ▸ r2.length).symm
  have hus : us.length ≤ sizeLine := by
    rw [← Paired.length r1, sizeLine_eq]
    omega
  refine wpAny_call (PySem.HandSPX.call_own T.base (fun _ => rfl) (I1.kIn _ _ hC) (PySem.W.looks_findIn I1.kIn iC) (fun self => PySem.W.bind_fn I1.kIn self tI) hus
    (codeAny_mono (F1.run _ X.stack _ _ ⟨Value.ref (hp.objs.size + 1) :: us, []⟩ (Value.ref (hp.objs.size + 1) :: (us ++ ds)) _ _ (fun _ _ _ => False) (hr.make C us []) (I2.env0.make C us []) (hb _ (Value.ref (hp.objs.size + 1) :: us) I2.kIn hl) r2 hq) fun r s' back => ?_))
  cases r with
  | error er => exact hx pins σ _ _ er s' I2 back
  | ok fl =>
    cases fl with
    | ret u =>
      obtain ⟨v, H2, os2, bare2, un2, hok2, rv, ev, d, fs, ea, ed, hd1, q2⟩ := back
      subst ev
      obtain ⟨h2, g2, d2, t2, os'⟩ := s'
      exact ⟨rv, mk_end (raises_own T.exC T.tyC) I1 hsz kk un2 hok2 os2 bare2 ea ed hd1 q2⟩
    | next => exact False.elim back
    | brk => exact False.elim back
    | cont => exact False.elim back
end
/-! ### isinstance of the error that a suite holds, its dict there -/
structure XIs (K : PySem.W.Frag) (C : Addr) : Prop where
  hcl : (PySem.W.clsIn K C).isSome = true
  hg : PySem.W.findIn K (.ref C) "__getattribute__" = some (some (.builtin "BaseException.__getattribute__"))
  hk : PySem.W.findIn K (.ref C) "__getattr__" = some none
  hs : PySem.W.subIn K (.ref C) (.type "BaseException") = some true
  ha : PySem.W.findIn K (.ref C) "__class__" = some (some (.builtin "object.__class__"))
  hn : PySem.W.specialIn K (.builtin "object.__class__") "__get__" = some (some (.builtin "getset_descriptor.__get__"))
  ht : PySem.W.takesIn K (.builtin "object.__class__") = some true
  hm : PySem.W.mroIn K C (.type "object") = some true
def rIsX (K : PySem.W.Frag) (cls : Value) (d : Option Addr) (a : Addr) : List V → Hp → VK → Prop := fun xs H Q => ∃ (C dd : Addr) (fs : List (Str × V)) (c : V) (cv : Value) (b : Bool), cls = .ref C ∧ d = some dd ∧ H dd = some (.xd fs) ∧ XIs K C ∧ xs = [.ref a, c] ∧ (∀ u, RelV c u → u = cv) ∧ PySem.W.kitOne K (.ref C) cv = some b ∧ Q (.bl b) H
open PySem PySem.Spec PyProof.Rows in
theorem call_isX {X : Cx} {a : Addr} {oe : Obj} {cls : Value} {d : Option Addr} {pn : List (Addr × Obj)} (hz : Zc cls d oe) (hf : ∃ vs, oe.data = .fields vs) : CallR (X.suite a ((a, oe) :: pn)) (.builtin "isinstance") (rIsX X.K cls d a) := by
  intro pins s σ H xs us Q I r h
  obtain ⟨C, dd, fs, c, cv, b, rfl, rfl, hd, M, rfl, hcv, e, q⟩ := h
  cases r with
  | cons rx rr =>
    cases rr with
    | cons rt rr =>
      cases rr
      cases rx
      have ec := hcv _ rt
      subst ec
      obtain ⟨hget, _⟩ := I.pin (a, oe) (List.mem_append.mpr (.inl List.mem_cons_self))
      obtain ⟨vs, hv⟩ := hf
      obtain ⟨mA, hns, _⟩ := (show ObjOk X.prog X.w H s.heap dd (.xd fs) from I.hok dd _ hd)
      obtain ⟨od, ho, _⟩ := lookIn_ns hns
      have J : PySem.W.InstAt s.heap a oe C (some od) := ⟨hget, hz.1, by unfold PySem.W.notCls; rw [hv] <;> rfl, by rw [hz.2]; exact ho⟩
      exact PySem.W.kia_one (PySem.W.kitx_exc M.hcl M.hg M.hk M.hs M.ha M.hn M.ht M.hm) I.kIn J e (fun z => nomatch z) fun tk => ⟨.bl b, H, I.kept (t' := tk) fun _ _ z => z, rfl, q⟩
end DL

set_option Elab.async false
set_option linter.all false
set_option maxRecDepth 100000
set_option maxHeartbeats 1000000
/-! DL12: promises that may raise; raise; try .. except X as e -/
namespace DL
open PySem L2
abbrev Er := Addr → List (Str × D) → Sls → Nat → Prop
abbrev XD := Addr → List (Str × D) → Nat → Prop
abbrev FX := List D → Nat → DK → XD → Prop
def XMono (T : FX) : Prop := ∀ ds n K K' E E', (∀ d n, K d n → K' d n) → (∀ C fs n, E C fs n → E' C fs n) → T ds n K E → T ds n K' E'
def XOut (m : Md) (O : Addr → Prop) (H : Hp) (E : XK) : XD := fun C fs n => ∀ d vfs H', KX m.d H H' → m.St n H' → H' d = some (.xd vfs) → ¬ O d → Rf O H' vfs fs → E (.ref C) (some d) H'
def spX (m : Md) (T : FX) : Sp := fun vs H Q E => ∃ ds O n, Rs O H vs ds ∧ (∀ a, m.g a → O a) ∧ (∀ a, O a → H a ≠ none) ∧ m.St n H ∧ T ds n (Out m O H Q) (XOut m O H E)
section
variable {X : Cx} {m : Md}
def tCallX (er : Er) (T : FX) (Ts : TDs) : TD := fun env n K => Ts env n fun xs n1 => T xs n1 K fun C fs n2 => er C fs env n2
theorem callx_q {T : FX} {O : Addr → Prop} {σ : L2.St} {H H1 : Hp} {env : Sls} {n1 : Nat} {vs : List V} {xs : List D} {Q : VK} (hm : XMono T) (e : EE m O σ H1 env) (k : KX m.d H H1) (s : m.St n1 H1) (r : Rs O H1 vs xs) (q : T xs n1 (Out m O H Q) fun C fs n2 => m.er C fs env n2) : spX m T vs H1 Q (WE m.W σ) :=
  ⟨xs, O, n1, r, e.gd, e.old, s, hm _ _ _ _ _ _ (fun d n o => out_trans k o) (fun C fs n2 z d vfs H' k2 s2 hd nd rf => e.wx C fs n2 d H' vfs k2 s2 hd nd rf z) q⟩
theorem tCallX_mono {er : Er} {T : FX} {Ts : TDs} (hm : XMono T) (ha : ∀ env n K K', (∀ d n, K d n → K' d n) → Ts env n K → Ts env n K') : ∀ env n K K', (∀ d n, K d n → K' d n) → tCallX er T Ts env n K → tCallX er T Ts env n K' :=
  fun env n K K' hk q => ha _ _ _ _ (fun xs n1 q => hm _ _ _ _ _ _ hk (fun _ _ _ z => z) q) q
theorem v_callX {er : Er} {k : Nat} {f : Addr} {fd : FuncData} {ps : List Str} {T : FX} {x : Str} {p pos : Pos} {e : Expr} {es : List Expr} {Ts : TDs} (tk : Takes X m.W) (F : FnOk X.prog X.w X.K X.mg X.base (L2.CX X.prog X.w) k f fd ps (spX m T)) (hm : XMono T) (hr : Room k X.A) (hg : Gl X x) (hmg : X.mg x = some (.ref f)) (hk : PySem.W.keepIn X.K (.ref f) = true) (hb : Binds X.K fd ps []) (a : AV X m (e :: es) Ts)
    (hdb : (x == ("__debug__" : Str)) = false := by decide) (he : starEach (e :: es) X.env = (false, eval e X.env) :: starEach es X.env := by rfl) (hpl : (backTo pos (starEach es X.env)).any (·.1) = false := by rfl) (her : m.er = er := by rfl) : EV X m (.Call (.Name x p) (e :: es) [] pos) (tCallX er T Ts) := by
  subst her
  obtain ⟨t, pa, h⟩ := a.ex
  refine ⟨tCallX_mono hm a.mono, _, pe_callS (E := WE m.W) F hr hg hmg hk hb (fun σ => passAt tk σ) pa hdb he hpl, fun O σ H env n Q e s q => ?_⟩
  refine h O σ H env n _ e s (a.mono _ _ _ _ (fun xs n1 q => ?_) q)
  intro vs H1 k1 s1 r1
  exact callx_q hm (e.kx k1 s1) k1 s1 r1 q
/-- o.m(e, ..) that may raise -/
def tMethXD (er : Er) (C : Addr) (mn : Str) (T : FX) (Ta : TD) (Ts : TDs) : TD := fun env n K => Ta env n fun d n1 => ∃ l, d = .obj C l ∧ l.lookup mn = none ∧ Ts env n1 fun xs n2 => T (d :: xs) n2 K fun C fs n3 => er C fs env n3
theorem pe_methS {pl : Sem Bool} {C : Addr} {mn : Str} {k : Nat} {f : Addr} {fd : FuncData} {ps : List Str} {sp : Sp} {E : L2.St → XK} {o e : Expr} {es : List Expr} {ta : TE} {t : TA} {apos pos : Pos} (he : PE X o ta) (c : Cls X.K C) (hm : Meth X.K C mn f) (F : FnOk X.prog X.w X.K X.mg X.base (L2.CX X.prog X.w) k f fd ps sp) (hr : Room k X.A) (hb : Binds X.K fd ps []) (hx : ∀ σ, PassesAt (L2.CX X.prog X.w) X σ (E σ)) (ha : PA X (e :: es) t)
    (hst : starEach (e :: es) X.env = (false, eval e X.env) :: starEach es X.env := by rfl) (hpl : (backTo pos (starEach es X.env)).any (·.1) = false := by rfl)
    (ht : eval (.Call (.Attribute o mn apos) (e :: es) [] pos) X.env = (do
      let ov ← eval o X.env
      standAt apos.atName
      let (f, first) ← holding [ov] (getMethod ov mn pl)
      callWith pos f first (backTo pos (starEach (e :: es) X.env)) (backToKw pos (keywordEach [] X.env))) := by rfl) :
    PE X (.Call (.Attribute o mn apos) (e :: es) [] pos) (fun σ H Q => ta σ H fun x H1 => ∃ a dx fs, x = .ref a ∧ H1 a = some (.ins C dx fs) ∧ fs.lookup mn = none ∧ t σ H1 fun vs H2 => sp (x :: vs) H2 Q (E σ)) := by
  refine ⟨fun pins s σ H Q I h => ?_⟩
  refine PySem.W.methodCall_KW (pl := pl) (thn (he.run pins s σ H _ I h) fun u s1 ⟨x, H1, I1, rx, a, dx, fs, ex, ea, l, q⟩ => ?_) ht
  subst ex
  obtain rfl : u = Value.ref a := rx
  refine getmeth_ok I1 ea c hm l ?_
  refine PySem.W.callWith_K (first := [.ref a]) (h₀ := X.base) I.ok.mod.kin hm.kp (thn (ha.run pos pins s1 σ H1 _ I1 q) fun us s2 ⟨vs, H2, I2, r, q2⟩ => ⟨I2.kIn, ?_⟩) hst hpl
  exact run_fnS (us := .ref a :: us) (vs := .ref a :: vs) F hr hb (hx σ) I2 (.cons rfl r) q2
theorem v_methX {er : Er} {pl : Sem Bool} {C : Addr} {mn : Str} {k : Nat} {f : Addr} {fd : FuncData} {ps : List Str} {T : FX} {o e : Expr} {es : List Expr} {Ta : TD} {Ts : TDs} {apos pos : Pos} (tk : Takes X m.W) (a : EV X m o Ta) (c : Cls X.K C) (hmt : Meth X.K C mn f) (F : FnOk X.prog X.w X.K X.mg X.base (L2.CX X.prog X.w) k f fd ps (spX m T)) (hm : XMono T) (hr : Room k X.A) (hb : Binds X.K fd ps []) (b : AV X m (e :: es) Ts)
    (hst : starEach (e :: es) X.env = (false, eval e X.env) :: starEach es X.env := by rfl) (hpl : (backTo pos (starEach es X.env)).any (·.1) = false := by rfl)
    (ht : eval (.Call (.Attribute o mn apos) (e :: es) [] pos) X.env = (do
      let ov ← eval o X.env
      standAt apos.atName
      let (f, first) ← holding [ov] (getMethod ov mn pl)
      callWith pos f first (backTo pos (starEach (e :: es) X.env)) (backToKw pos (keywordEach [] X.env))) := by rfl) (her : m.er = er := by rfl) : EV X m (.Call (.Attribute o mn apos) (e :: es) [] pos) (tMethXD er C mn T Ta Ts) := by
  subst her
  obtain ⟨ta, po, ho⟩ := a.ex
  obtain ⟨t, pa, h⟩ := b.ex
  refine ⟨fun env n K K' hk q => a.mono _ _ _ _ (fun d n1 ⟨l, e1, e2, q⟩ => ⟨l, e1, e2, b.mono _ _ _ _ (fun xs n2 q => hm _ _ _ _ _ _ hk (fun _ _ _ z => z) q) q⟩) q, _, pe_methS (pl := pl) (E := WE m.W) po c hmt F hr hb (fun σ => passAt tk σ) pa hst hpl ht, fun O σ H env n Q e s q => ?_⟩
  refine ho O σ H env n _ e s (a.mono _ _ _ _ (fun d n1 ⟨l, e1, e2, q⟩ => ?_) q)
  intro v H1 k1 s1 r1
  subst e1
  cases id r1 with
  | obj n0 h0 s0 =>
    refine ⟨_, _, _, rfl, h0, s0.none e2, ?_⟩
    have e1 := e.kx k1 s1
    refine h O σ H1 env n1 _ e1 s1 (b.mono _ _ _ _ (fun xs n2 q => ?_) q)
    intro vs H2 k2 s2 r2
    exact callx_q hm (e1.kx k2 s2) (k1.trans k2) s2 (.cons (r1.kx (k2.mono fun x h => e.gd x (m.dg x h))) r2) q
/-! ### raise -/
/-- what an own error's __init__ does -/
def spE (C : Addr) (T : List D → (List (Str × D) → Prop) → Prop) : Sp := fun vs H Q _ => ∃ (a : Addr) (ws : List V) (ds : List D) (O : Addr → Prop), vs = .ref a :: ws ∧ H a = some (exo a C none) ∧ ¬ O a ∧ (∀ b, O b → H b ≠ none) ∧ Rs (fun b => O b ∨ b = a) H ws ds ∧
  T ds (fun fs => ∀ H' dx vfs, (∀ b o, b ≠ a → H b = some o → H' b = some o) → H dx = none → dx ≠ a → H' a = some (exo a C (some dx)) → H' dx = some (exd dx vfs) → Rf (fun b => O b ∨ b = a ∨ b = dx) H' vfs fs → Q .non H')
def sRaise (er : Er) (C : Addr) (TI : List D → (List (Str × D) → Prop) → Prop) (Ts : TDs) : TDS := fun _ env n => Ts env n fun xs n1 => xs.length ≤ 900 ∧ TI xs fun fs => er C fs env n1
theorem s_raise {er : Er} {B nn ii : String} {bm : List Value} {C fI : Addr} {k : Nat} {fd : FuncData} {ps : List Str} {TI : List D → (List (Str × D) → Prop) → Prop} {x : Str} {e : Expr} {es : List Expr} {Ts : TDs} {p pos pos' : Pos} (hc : X.calm = true) (tk : Takes X m.W) (T : OexB X.K C B nn ii bm) (iC : PySem.W.findIn X.K (.ref C) "__init__" = some (some (.ref fI))) (tI : PySem.W.typeIn X.K (.ref fI) = some (.type "function"))
    (F1 : FnOk X.prog X.w X.K X.mg X.base CX0 k fI fd ps (spE C TI)) (hm : ∀ ds K K', (∀ fs, K fs → K' fs) → TI ds K → TI ds K') (hr : Room (k + 1) X.A) (hb : Binds X.K fd ps []) (hg : Gl X x) (hmg : X.mg x = some (.ref C)) (a : AV X m (e :: es) Ts)
    (hdb : (x == ("__debug__" : Str)) = false := by decide) (he : starEach (e :: es) X.env = (false, eval e X.env) :: starEach es X.env := by rfl) (hpl : (backTo pos (starEach es X.env)).any (·.1) = false := by rfl) (her : m.er = er := by rfl) :
    SV X m (.Raise (some (.Call (.Name x p) (e :: es) [] pos)) none pos') (sRaise er C TI Ts) := by
  subst her
  obtain ⟨t, pa, h⟩ := a.ex
  refine ⟨_, ps_raise hc tk (pmk_oexB T iC tI F1 hr hb .nil pass0 hg hmg pa hdb he hpl), fun F σ H env n Z E e s z q => ?_⟩
  refine h _ σ H env n _ e.ee s (a.mono _ _ _ _ (fun xs n1 ⟨hl, q⟩ => ?_) q)
  intro vs H1 k1 s1 r1
  rw [List.append_nil]
  refine ⟨by rw [r1.length]; omega, fun a na => ?_⟩
  have e1 := e.kx k1 s1
  have nO := e1.o.ee.new na
  have up : ∀ b o, H1 b = some o → (upd H1 a (exo a C none)) b = some o := fun b o h => by rw [upd_ne (ne_of_none h na)]; exact h
  refine ⟨a, vs, xs, OO F.O env σ, rfl, upd_same, nO, fun b hb => ?_, r1.keep fun b o n h => ⟨up b o h, fun z => z.elim n (ne_of_none h na)⟩, hm _ _ _ (fun fs er => ?_) q⟩
  · cases z : H1 b with
    | none => exact absurd z (e1.o.ee.old b hb)
    | some o => rw [up b o z]; exact fun z => nomatch z
  · intro H2 dx vfs kk nx ne ha hd rf
    rw [upd_ne ne] at nx
    refine ⟨rfl, dx, vfs, ha, hd, nx, ?_⟩
    have keep : ∀ b o, H1 b = some o → (upd (del H2 a) dx (.xd vfs)) b = some o := fun b o h => by
      rw [upd_ne (ne_of_none h nx), del_ne (ne_of_none h na)]
      exact kk b o (ne_of_none h na) (up b o h)
    exact e.wx σ _ env n1 C fs dx vfs (e1.o.kx (fun b o _ h => keep b o h) (m.keep n1 H1 _ s1 fun b o _ h => keep b o h)) (m.keep n1 H1 _ s1 fun b o _ h => keep b o h) upd_same (e1.o.ee.new nx)
      (rf.keep fun b o n h => ⟨by rw [upd_ne (fun z => n (.inr (.inr z))), del_ne (fun z => n (.inr (.inl z)))]; exact h, fun z => n (.inl z)⟩) er
end
end DL

set_option Elab.async false
set_option linter.all false
set_option maxRecDepth 100000
set_option maxHeartbeats 1000000
namespace DL
open PySem L2
abbrev Md.x (m : Md) (W : WX) (er : Er) : Md := { m with W := W, er := er }
section
variable {P : Program} {w : World} {K : PySem.W.Frag} {mg : Str → Option Value} {base : Heap}
/-- a def that may raise -/
theorem fn_okX {m : Md} {x qual : Str} {st : Stmt} {f : Addr} {fd : FuncData} {N ps : List Str} {k : Nat} {T : FX} (Fn : Fun K x qual st f fd) (S : FnScope N ps (defScope st)) (len : ∀ ds n K E, T ds n K E → ds.length = ps.length)
    (hb : ∀ (cdv : Value) (A : Around) (outer : List Env) (s : Shared) (H : Hp) (E : XK) (er : XD), Room k (A.deeper (PyProof.Rows.envOfC qual (defScope st) s.heap.objs.size f cdv)) → ∃ TS : TDS, SsV (cxOf (L2.CX P w) P w K mg base N qual (defScope st) f cdv A outer s H E) (m.x (fun cls d _ H => E cls d H) fun C fs _ n => er C fs n) (defBody st) TS ∧ ∀ ds n K, T ds n K er → TS (Zdef K) (startE N ds) n) :
    FnOk P w K mg base (L2.CX P w) (k + 1) f fd ps (spX m T) := by
  refine Fn.okX S (fun vs H Q E h => ?_) (fun cdv A outer s H vs Q E hr h => ?_)
  · obtain ⟨ds, O, n, r, _, _, _, t⟩ := h
    rw [r.length]
    exact len _ _ _ _ t
  · obtain ⟨ds, O, n, r, gd, old, st, t⟩ := h
    obtain ⟨TS, ⟨u, p, hz⟩, ht⟩ := hb cdv A outer s H E (XOut m O H E) hr
    have nn : ∀ {b : Addr} {o : HO}, H b = some o → H b ≠ none := fun h => by rw [h]; exact fun z => by cases z
    refine ⟨u, p, hz ⟨H, fun a => H a ≠ none, O⟩ _ H _ n (Zdef (Out m O H Q)) _ ⟨start_ok (m := m.x (fun cls d _ H => E cls d H) fun C fs _ n => XOut m O H E C fs n) r gd old, fun σ H' env n' C fs d vfs e' s' hd nd rf z => ?_⟩ st ⟨fun σ H' env n' e' s' q => q .non H' (fun b o nd h => e'.kp b o (nn h) nd h) s' .non, fun v H' d n' k' s' r' q => q v H' (fun b o nd h => k' b o (nn h) nd h) s' r', fun σ H' env n' _ _ q => q.elim, fun σ H' env n' _ _ q => q.elim⟩ (ht ds n _ t)⟩
    exact z d vfs H' (fun b o nd h => e'.kp b o (nn h) nd h) s' hd (fun z => nd (.inl z)) (rf.keep fun b o n q => ⟨q, fun z => n (.inl z)⟩)
/-- a promise that wishes for no error -/
theorem FnOk.to0 {n : Nat} {f : Addr} {fd : FuncData} {ps : List Str} {sp sp0 : Sp} (F : FnOk P w K mg base (L2.CX P w) n f fd ps sp) (h : ∀ vs H Q E, sp0 vs H Q E → sp vs H Q fun _ _ _ => False) : FnOk P w K mg base CX0 n f fd ps sp0 := by
  refine ⟨fun vs H Q E q => F.len vs H Q _ (h vs H Q E q), fun A outer s H args us vs Q E hr he hb r q => ?_⟩
  refine codeAny_mono (F.run A outer s H args us vs Q _ hr he hb r (h vs H Q E q)) fun x s' hq => ?_
  cases x with
  | error e =>
    obtain ⟨_, _, _, _, _, _, _, _, _, _, _, _, z⟩ := hq
    exact z.elim
  | ok fl => cases fl <;> exact hq
theorem FnOk.calm {m : Md} {n : Nat} {f : Addr} {fd : FuncData} {ps : List Str} {T : FX} {T0 : FT} (F : FnOk P w K mg base (L2.CX P w) n f fd ps (spX m T)) (h : ∀ ds n K, T0 ds n K → ∀ E, T ds n K E) : FnOk P w K mg base CX0 n f fd ps (spM m T0) :=
  DL.FnOk.to0 F fun vs H Q E ⟨ds, O, n, r, gd, old, st, t⟩ => ⟨ds, O, n, r, gd, old, st, h ds n _ t _⟩
end
/-- a slot is unset -/
theorem EO0.unset {m : Md} {F : Fm} {σ : L2.St} {H : Hp} {env : Sls} (e : EO0 m F σ H env) (i : Nat) : EO0 m F (σ.set i none) H (env.set i .any) := by
  have sub : ∀ {j : Nat} {w : OwnS}, (env.set i .any)[j]? = some (.own w) → j ≠ i ∧ env[j]? = some (.own w) := fun {j w} h => by
    rw [List.getElem?_set] at h
    by_cases q : i = j
    · rw [if_pos q] at h
      split at h <;> cases h
    · rw [if_neg q] at h
      exact ⟨fun z => q z.symm, h⟩
  have own : ∀ {a : Addr}, ownA (env.set i .any) (σ.set i none) a → ownA env σ a := fun {a} ⟨j, w, h1, h2⟩ => by
    obtain ⟨nj, h⟩ := sub h1
    rw [List.getElem?_set_ne (fun z => nj z.symm)] at h2
    exact ⟨j, w, h, h2⟩
  have kk : ∀ b o, ¬ OO F.O env σ b → H b = some o → H b = some o ∧ ¬ OO F.O (env.set i .any) (σ.set i none) b := fun b o n q => ⟨q, fun z => n (z.elim .inl fun z => .inr (own z))⟩
  refine ⟨⟨by rw [List.length_set, List.length_set]; exact e.ee.len, fun a h => .inl (e.gd a h), fun a h => e.ee.old a (h.elim .inl fun z => .inr (own z)), fun j d q => ?_, fun j w q => ?_⟩, e.gd, e.o0, e.kt, e.kp, fun a h => e.ow a (own h), fun j k w x a h1 h2 h3 h4 => ?_⟩
  · rw [List.getElem?_set] at q
    by_cases hj : i = j
    · rw [if_pos hj] at q
      split at q <;> cases q
    · rw [if_neg hj] at q
      rw [List.getElem?_set_ne hj]
      obtain ⟨v, h1, h2⟩ := e.ee.val j d q
      exact ⟨v, h1, h2.keep kk⟩
  · obtain ⟨nj, h⟩ := sub q
    obtain ⟨b, h1, h2, h3, h4⟩ := e.ee.own j w h
    have g : (σ.set i none)[j]? = some (some (.ref b)) := by rw [List.getElem?_set_ne (fun z => nj z.symm)]; exact h1
    exact ⟨b, g, h2.keep kk (fun _ z => z), .inr ⟨j, w, q, g⟩, h4⟩
  · obtain ⟨n1, f1⟩ := sub h1
    obtain ⟨n2, f2⟩ := sub h2
    rw [List.getElem?_set_ne (fun z => n1 z.symm)] at h3
    rw [List.getElem?_set_ne (fun z => n2 z.symm)] at h4
    exact e.un j k w x a f1 f2 h3 h4
section
variable {X : Cx} {m : Md}
theorem EO0.md {m m' : Md} {F : Fm} {σ : L2.St} {H : Hp} {env : Sls} (e : EO0 m F σ H env) (hd : m'.d = m.d) (hg : m'.g = m.g) : EO0 m' F σ H env := by
  refine ⟨⟨e.ee.len, fun a h => e.ee.gd a (by rw [← hg]; exact h), e.ee.old, e.ee.val, fun i w q => ?_⟩, fun a h => e.gd a (by rw [← hg]; exact h), e.o0, e.kt, fun b o h1 h2 h3 => e.kp b o h1 (by rw [← hd]; exact h2) h3, e.ow, e.un⟩
  obtain ⟨a, h1, h2, h3, h4⟩ := e.ee.own i w q
  exact ⟨a, h1, h2, h3, by rw [hg]; exact h4⟩
/-- try: body / except x as n: suite; slot i is n's -/
def sTry (K : PySem.W.Frag) (m : Md) (i : Nat) (Ce : Value) (Tb : Er → TDS) (Ts : Addr → Addr → Addr → TDS) : TDS := fun Z env n => Tb (fun C fs env' n' => ∃ b, PySem.W.exmOne K (.ref C) Ce = some b ∧
  (b = true → ∀ a d, Ts a d C { nx := fun env n => Z.nx (env.set i .any) n, rt := Z.rt, bk := fun env n => Z.bk (env.set i .any) n, ct := fun env n => Z.ct (env.set i .any) n } (env'.set i (.val (.exc a d C fs))) n') ∧ (b = false → m.er C fs env' n')) Z env n
theorem s_try {x nm : Str} {c : Value} {i : Nat} {body suite : List Stmt} {b₀ : Stmt} {np pos pos' : Pos} {Tb : Er → TDS} {Ts : Addr → Addr → Addr → TDS}
    (hs : X.stack = X.env :: X.outer) (hf : X.env.frame = some X.env.locals) (hN : X.N.Nodup) (hi : X.N[i]? = some nm) (hln : X.env.kindOf nm = some .local) (hc : Names X x c) (tk : Takes X m.W)
    (hb : ∀ (W : WX) (er : Er) (pn : List (Addr × Obj)) (xe : Value → Shared → Prop), Takes (X.tr pn xe) W → PassesOwn (model X.prog X.w) X.A X.env xe → SsV (X.tr pn xe) (m.x W er) body (Tb er))
    (hsu : ∀ (a d C : Addr) (oe : Obj) (pn : List (Addr × Obj)), Zc (.ref C) (some d) oe → (∃ vs, oe.data = .fields vs) → SsV (X.suite a ((a, oe) :: pn)) m.nox (b₀ :: suite) (Ts a d C)) :
    SV X m (.Try body [.ExceptHandler (some (.Name x np)) (some nm) (b₀ :: suite) pos'] [] [] pos) (sTry X.K m i c Tb Ts) := by
  let tb : WX → TS := fun W E σ H => ∃ F env n Z er, EO (m.x W er) F σ H env ∧ m.St n H ∧ Ends' (m.x W er) F Z E ∧ Tb er Z env n
  let ts : Addr → Value → Option Addr → TS := fun a cls d E σ H => ∃ F env n Z C dd, cls = .ref C ∧ d = some dd ∧ EO m.nox F σ H env ∧ m.St n H ∧ Ends' m.nox F Z E ∧ Ts a dd C Z env n
  refine ⟨_, ps_try_as (tb := tb) (ts := ts) (Wout := m.W) hs hf hN hi hln hc tk (fun W pn xe tk2 hp => ?_) (fun a oe cls d pn hz hf => ?_), fun F σ H env n Z E e s z q => ?_⟩
  · refine ⟨fun pins s σ H E I h => ?_⟩
    obtain ⟨F, env, n, Z, er, e, st, z, q⟩ := h
    obtain ⟨t, p, hz⟩ := (hb W er pn xe tk2 hp).ex
    exact p.run pins s σ H E I (hz F σ H env n Z E e st z q)
  · refine ⟨fun pins s σ H E I h => ?_⟩
    obtain ⟨F, env, n, Z, C, dd, rfl, rfl, e, st, z, q⟩ := h
    obtain ⟨t, p, hz⟩ := (hsu a dd C oe pn hz hf).ex
    exact p.run pins s σ H E I (hz F σ H env n Z E e st z q)
  · let er : Er := fun C fs env' n' => ∃ b, PySem.W.exmOne X.K (.ref C) c = some b ∧
      (b = true → ∀ a d, Ts a d C { nx := fun env n => Z.nx (env.set i .any) n, rt := Z.rt, bk := fun env n => Z.bk (env.set i .any) n, ct := fun env n => Z.ct (env.set i .any) n } (env'.set i (.val (.exc a d C fs))) n') ∧ (b = false → m.er C fs env' n')
    have out : ∀ {W er σ H env}, EO0 (m.x W er) F σ H env → EO m F σ H env := fun x => ⟨x.md rfl rfl, e.wx⟩
    have outn : ∀ {σ H env}, EO0 m.nox F σ H env → EO m F σ H env := fun x => ⟨x.md rfl rfl, e.wx⟩
    refine ⟨F, env, n, Z, er, ⟨e.o.md rfl rfl, fun σ' H' env' n' C fs d vfs e' s' hd nd rf hq => ?_⟩, s, ⟨fun σ' H' env' n' e' s' q => z.nx _ _ _ _ (out e'.o) s' q, z.rt, fun σ' H' env' n' e' s' q => z.bk _ _ _ _ (out e'.o) s' q, fun σ' H' env' n' e' s' q => z.ct _ _ _ _ (out e'.o) s' q⟩, q⟩
    obtain ⟨b, hb1, hy, hno⟩ := hq
    refine ⟨b, hb1, fun hb a na => ?_, fun hb => (out e').wx σ' H' env' n' C fs d vfs (out e').o s' hd nd rf (hno hb)⟩
    refine ⟨F, env'.set i (.val (.exc a d C fs)), n', { nx := fun env n => Z.nx (env.set i .any) n, rt := Z.rt, bk := fun env n => Z.bk (env.set i .any) n, ct := fun env n => Z.ct (env.set i .any) n }, C, d, rfl, rfl, ⟨(e'.set (.exc nd hd rf)).md rfl rfl, fun _ _ _ _ _ _ _ _ _ _ _ _ _ z => z.elim⟩, s', ⟨fun σ2 H2 env2 n2 e2 s2 q => z.nx _ _ _ _ (outn (e2.o.unset i)) s2 q, z.rt, fun σ2 H2 env2 n2 e2 s2 q => z.bk _ _ _ _ (outn (e2.o.unset i)) s2 q, fun σ2 H2 env2 n2 e2 s2 q => z.ct _ _ _ _ (outn (e2.o.unset i)) s2 q⟩, hy hb a d⟩
/-- e.f, of the caught error -/
def tXfD (a d C : Addr) (f : Str) (Ta : TD) : TD := fun env n K => Ta env n fun x n1 => ∃ l v, x = .exc a d C l ∧ l.lookup f = some v ∧ K v n1
theorem v_xf {a d C : Addr} {oe : Obj} {pn : List (Addr × Obj)} {f : Str} {o : Expr} {Ta : TD} {pos : Pos} (T : XfC X.K C) (hno : PySem.W.findIn X.K (.ref C) f = some none) (hz : Zc (.ref C) (some d) oe) (hf : ∃ vs, oe.data = .fields vs) (h : EV (X.suite a ((a, oe) :: pn)) m o Ta) (hab : attributeBase o f X.env (eval o X.env) = eval o X.env := by rfl) :
    EV (X.suite a ((a, oe) :: pn)) m (.Attribute o f pos) (tXfD a d C f Ta) := by
  obtain ⟨ta, po, ho⟩ := h.ex
  refine ⟨fun env n K K' hk q => h.mono _ _ _ _ (fun x n1 ⟨l, v, e1, e2, q⟩ => ⟨l, v, e1, e2, hk _ _ q⟩) q, _, pe_xf T hno hz hf po hab, fun O σ H env n Q e s q => ?_⟩
  refine ho O σ H env n _ e s (h.mono _ _ _ _ (fun x n1 ⟨l, v, e1, e2, q⟩ => ?_) q)
  intro v1 H1 k1 s1 r1
  subst e1
  cases id r1 with
  | exc n0 h0 s0 =>
    obtain ⟨w, hw, rw'⟩ := s0.look e2
    exact ⟨rfl, rfl, d, _, w, rfl, h0, hw, q _ H1 k1 s1 rw'⟩
/-- isinstance(e, built-in class) -/
def cIsX (K : PySem.W.Frag) (a d C : Addr) : CD := fun xs Q => ∃ l s b, xs = [.exc a d C l, .ty s] ∧ PySem.W.kitOne K (.ref C) (.type s) = some b ∧ Q (.bl b)
theorem k_isX {KK : PySem.W.Frag} {a d C : Addr} (M : XIs KK C) : CallD (rIsX KK (.ref C) (some d) a) (cIsX KK a d C) where
  mono := fun xs K K' h ⟨l, s, b, e, q, k⟩ => ⟨l, s, b, e, q, h _ k⟩
  run := fun m O H n vs xs Q gd old s r ⟨l, t, b, e, hb, k⟩ => by
    subst e
    cases r with
    | cons r1 r2 =>
      cases r2 with
      | cons r2 r3 =>
        cases r3
        cases r2
        cases r1 with
        | exc n0 h0 s0 => exact ⟨C, d, _, _, _, b, rfl, rfl, h0, M, rfl, fun u r => r, hb, k _ H KX.refl s (.bl _)⟩
end
end DL

set_option Elab.async false
set_option linter.all false
set_option maxRecDepth 100000
set_option maxHeartbeats 1000000
/-! DL14: defs that are called where no repr is under way -/
namespace DL
open PySem L2
section
open PySem.Spec PyProof.Rows
structure FnG (P : Program) (w : World) (K : PySem.W.Frag) (mg : Str → Option Value) (base : Heap) (CX : CXT) (k : Nat) (f : Addr) (fd : FuncData) (ps : List Str) (sp : Sp) : Prop where
  len : ∀ vs H Q E, sp vs H Q E → vs.length = ps.length
  run : ∀ (A : Around) (outer : List Env) (s : Shared) (H : Hp) (args : Args) (us : List Value) (vs : List V) (Q : VK) (E : XK), A.guards = some [] → Room k A → Env0 P w K mg base A outer s H → BindsTo s fd args (ps.zip us) → Vals vs us → sp vs H Q E →
    codeAny (model P w) A (.call (.ref f) args) (CR CX outer P w H s Q E) s
variable {P : Program} {w : World} {K : PySem.W.Frag} {mg : Str → Option Value} {base : Heap} {CX : CXT}
theorem FnG.mono {j k : Nat} {f : Addr} {fd : FuncData} {ps : List Str} {sp : Sp} (F : FnG P w K mg base CX j f fd ps sp) (h : j ≤ k) : FnG P w K mg base CX k f fd ps sp := ⟨F.len, fun A outer s H args us vs Q E hg hr => F.run A outer s H args us vs Q E hg (hr.mono h)⟩
theorem FnG.imp {k : Nat} {f : Addr} {fd : FuncData} {ps : List Str} {sp sp' : Sp} (F : FnG P w K mg base CX k f fd ps sp) (h : ∀ vs H Q E, sp' vs H Q E → sp vs H Q E) : FnG P w K mg base CX k f fd ps sp' :=
  ⟨fun vs H Q E q => F.len vs H Q E (h _ _ _ _ q), fun A outer s H args us vs Q E hg hr he hb r q => F.run A outer s H args us vs Q E hg hr he hb r (h _ _ _ _ q)⟩
theorem FnG.to0 {n : Nat} {f : Addr} {fd : FuncData} {ps : List Str} {sp sp0 : Sp} (F : FnG P w K mg base (L2.CX P w) n f fd ps sp) (h : ∀ vs H Q E, sp0 vs H Q E → sp vs H Q fun _ _ _ => False) : FnG P w K mg base CX0 n f fd ps sp0 := by
  refine ⟨fun vs H Q E q => F.len vs H Q _ (h vs H Q E q), fun A outer s H args us vs Q E hg hr he hb r q => ?_⟩
  refine codeAny_mono (F.run A outer s H args us vs Q _ hg hr he hb r (h vs H Q E q)) fun x s' hq => ?_
  cases x with
  | error e =>
    obtain ⟨_, _, _, _, _, _, _, _, _, _, _, _, z⟩ := hq
    exact z.elim
  | ok fl => cases fl <;> exact hq
theorem FnG.calm {m : Md} {n : Nat} {f : Addr} {fd : FuncData} {ps : List Str} {T : FX} {T0 : FT} (F : FnG P w K mg base (L2.CX P w) n f fd ps (spX m T)) (h : ∀ ds n K, T0 ds n K → ∀ E, T ds n K E) : FnG P w K mg base CX0 n f fd ps (spM m T0) :=
  F.to0 fun vs H Q E ⟨ds, O, n, r, gd, old, st, t⟩ => ⟨ds, O, n, r, gd, old, st, h ds n _ t _⟩
theorem guards_deeper (A : Around) (env : Env) : (A.deeper env).guards = A.guards := rfl
theorem guards_mark (A : Around) (v : Option Value) : (A.mark v).guards = A.guards := rfl
theorem okG {x qual : Str} {st : Stmt} {f : Addr} {fd : FuncData} {N ps : List Str} {k : Nat} {sp : Sp} (F : Fun K x qual st f fd) (S : FnScope N ps (defScope st)) (len : ∀ vs H Q E, sp vs H Q E → vs.length = ps.length)
    (hbody : ∀ (cdv : Value) (A : Around) (outer : List Env) (s : Shared) (H : Hp) (vs : List V) (Q : VK) (E : XK), A.guards = some [] → Room k (A.deeper (PyProof.Rows.envOfC qual (defScope st) s.heap.objs.size f cdv)) → sp vs H Q E →
      ∃ t, PSs (cxOf CX0 P w K mg base N qual (defScope st) f cdv A outer s H E).nox (defBody st) t ∧ t { nx := fun _ H' => Q .non H', rt := Q } (start N vs) H) : FnG P w K mg base CX0 (k + 1) f fd ps sp := by
  obtain ⟨oc, od, kV, doc, pm, an, cdv, ct, osl, rfl, lk, hcd⟩ := F.ex
  refine ⟨len, fun A outer s H args us vs Q E hg hr e0 hb r hsp => ?_⟩
  have inK : K.In s.heap := e0.mod.kin.keeps fun b o e => (e0.bs b o e).1
  have noLim : s.heap.NoLimit := e0.mod.nolimit.keeps fun b o e => (e0.bs b o e).1
  have kinds : ∀ y ∈ ps.zip us, (defScope st).names.lookup y.1 = some .local ∨ ((defScope st).names.lookup y.1 = some .cell ∧ ((PySem.cellsFrom (s.heap.objs.size + 1) (defScope st).names []).lookup y.1).isSome = true) := by
    rintro ⟨n, v⟩ hy
    have hn := (List.of_mem_zip hy).1
    rcases S.par n hn with z | z
    · exact Or.inl z
    · exact Or.inr ⟨z, PySem.W.cellsFrom_some _ _ _ (Or.inl z)⟩
  refine codeAny_call_function hr.depth (inK _ _ lk) rfl S.co S.gen rfl
    (PySem.W.codeRec_of inK hcd) (hb _ _ _ _ (wpAny_newFunctionEnv_cells S.kind kinds fun env he s1 y => ?_))
  subst he
  obtain ⟨t, ht, hq⟩ := hbody cdv A outer s H vs Q E hg (hr.deeper _) hsp
  have I0 := inv_start (CX := CX0) (E := E) (cd := cdv) S hr.hd e0 (len _ _ _ _ hsp) r y
  refine ⟨noLim.keeps y.toInCall.keep, codeAny_func (wpAny_mono (ht.nox.run [] s1 _ H _ I0 hq) (fun fl s' z => ?_) fun _ _ z => z)⟩
  cases fl with
  | ret u =>
    obtain ⟨v, σ', H', J, rv, q⟩ := z
    exact ⟨v, H', J.os, J.bare, J.base, J.hok, rv, q⟩
  | next =>
    obtain ⟨σ', H', J, q⟩ := z
    exact ⟨V.non, H', J.os, J.bare, J.base, J.hok, rfl, q⟩
  | brk => exact z.elim fun _ z => z.elim fun _ z => z.2.elim
  | cont => exact z.elim fun _ z => z.elim fun _ z => z.2.elim
theorem okGX {x qual : Str} {st : Stmt} {f : Addr} {fd : FuncData} {N ps : List Str} {k : Nat} {sp : Sp} (F : Fun K x qual st f fd) (S : FnScope N ps (defScope st)) (len : ∀ vs H Q E, sp vs H Q E → vs.length = ps.length)
    (hbody : ∀ (cdv : Value) (A : Around) (outer : List Env) (s : Shared) (H : Hp) (vs : List V) (Q : VK) (E : XK), A.guards = some [] → Room k (A.deeper (PyProof.Rows.envOfC qual (defScope st) s.heap.objs.size f cdv)) → sp vs H Q E →
      ∃ t, PSs (cxOf (L2.CX P w) P w K mg base N qual (defScope st) f cdv A outer s H E) (defBody st) t ∧ t { nx := fun _ H' => Q .non H', rt := Q } (start N vs) H) : FnG P w K mg base (L2.CX P w) (k + 1) f fd ps sp := by
  obtain ⟨oc, od, kV, doc, pm, an, cdv, ct, osl, rfl, lk, hcd⟩ := F.ex
  refine ⟨len, fun A outer s H args us vs Q E hg hr e0 hb r hsp => ?_⟩
  have inK : K.In s.heap := e0.mod.kin.keeps fun b o e => (e0.bs b o e).1
  have noLim : s.heap.NoLimit := e0.mod.nolimit.keeps fun b o e => (e0.bs b o e).1
  have kinds : ∀ y ∈ ps.zip us, (defScope st).names.lookup y.1 = some .local ∨ ((defScope st).names.lookup y.1 = some .cell ∧ ((PySem.cellsFrom (s.heap.objs.size + 1) (defScope st).names []).lookup y.1).isSome = true) := by
    rintro ⟨n, v⟩ hy
    have hn := (List.of_mem_zip hy).1
    rcases S.par n hn with z | z
    · exact Or.inl z
    · exact Or.inr ⟨z, PySem.W.cellsFrom_some _ _ _ (Or.inl z)⟩
  refine codeAny_call_function hr.depth (inK _ _ lk) rfl S.co S.gen rfl
    (PySem.W.codeRec_of inK hcd) (hb _ _ _ _ (wpAny_newFunctionEnv_cells S.kind kinds fun env he s1 y => ?_))
  subst he
  obtain ⟨t, ht, hq⟩ := hbody cdv A outer s H vs Q E hg (hr.deeper _) hsp
  have I0 := inv_start (CX := (L2.CX P w)) (E := E) (cd := cdv) S hr.hd e0 (len _ _ _ _ hsp) r y
  refine ⟨noLim.keeps y.toInCall.keep, codeAny_func (wpAny_mono (ht.run [] s1 _ H _ I0 hq) (fun fl s' z => ?_) fun _ _ z => z)⟩
  cases fl with
  | ret u =>
    obtain ⟨v, σ', H', J, rv, q⟩ := z
    exact ⟨v, H', J.os, J.bare, J.base, J.hok, rv, q⟩
  | next =>
    obtain ⟨σ', H', J, q⟩ := z
    exact ⟨V.non, H', J.os, J.bare, J.base, J.hok, rfl, q⟩
  | brk => exact z.elim fun _ z => z.elim fun _ z => z.2.elim
  | cont => exact z.elim fun _ z => z.elim fun _ z => z.2.elim

theorem run_fnG {X : Cx} {k : Nat} {f : Addr} {fd : FuncData} {ps : List Str} {sp : Sp} {E : XK} {pins : List (Addr × Obj)} {σ : L2.St} {H : Hp} {s : Shared} {Q : VK} {us : List Value} {vs : List V} (hgd : X.A.guards = some []) (F : FnG X.prog X.w X.K X.mg X.base CX k f fd ps sp) (hr : Room k X.A) (hb : Binds X.K fd ps []) (hx : Passes CX X E)
    (I : Inv X pins σ H s) (r : Vals vs us) (h : sp vs H Q E) : wpAny (model X.prog X.w) X.A (call (.ref f) us) (EP X pins σ Q) X.xe s := by
  have hl : us.length = ps.length := by rw [← r.length]; exact F.len _ _ _ _ h
  have b := hb s us I.kIn (by rw [List.append_nil]; exact hl)
  rw [List.append_nil] at b
  refine wpAny_call (codeAny_mono (F.run X.A X.stack s H ⟨us, []⟩ us vs Q E hgd hr I.env0 b r h) fun r' s' hq => ?_)
  cases r' with
  | error e' => exact hx pins σ H s e' s' I hq
  | ok fl =>
    cases fl with
    | ret u => exact I.after hq
    | next => exact hq.elim
    | brk => exact hq.elim
    | cont => exact hq.elim
theorem pe_callG {X : Cx} {k : Nat} {f : Addr} {fd : FuncData} {ps : List Str} {sp : Sp} {y : Str} {p pos : Pos} {e : Expr} {es : List Expr} {t : TA} (hgd : X.A.guards = some []) (F : FnG X.prog X.w X.K X.mg X.base CX0 k f fd ps sp) (hr : Room k X.A) (hg : Gl X y) (hm : X.mg y = some (.ref f))
    (hk : PySem.W.keepIn X.K (.ref f) = true) (hb : Binds X.K fd ps []) (ha : PA X (e :: es) t) (hdb : (y == ("__debug__" : Str)) = false := by decide)
    (he : starEach (e :: es) X.env = (false, eval e X.env) :: starEach es X.env := by rfl) (hpl : (backTo pos (starEach es X.env)).any (·.1) = false := by rfl) :
    PE X (.Call (.Name y p) (e :: es) [] pos) (fun σ H Q => t σ H fun vs H1 => sp vs H1 Q E0) := by
  refine ⟨fun pins s σ H Q I h => ?_⟩
  refine wpAny_Call_Name_kw (ld_glob I hg hm ?_ hdb)
  exact PySem.W.callWith_K (h₀ := X.base) I.ok.mod.kin hk (thn (ha.run pos pins s σ H _ I h) fun us s1 ⟨vs, H1, I1, r, q⟩ => ⟨I1.kIn, run_fnG hgd F hr hb pass0 I1 r q⟩) he hpl
end
section
variable {X : Cx} {m : Md}
theorem v_callG {k : Nat} {f : Addr} {fd : FuncData} {ps : List Str} {T : FT} {x : Str} {p pos : Pos} {e : Expr} {es : List Expr} {Ts : TDs} (hgd : X.A.guards = some []) (F : FnG X.prog X.w X.K X.mg X.base CX0 k f fd ps (spM m T)) (hm : FMono T) (hr : Room k X.A) (hg : Gl X x) (hmg : X.mg x = some (.ref f)) (hk : PySem.W.keepIn X.K (.ref f) = true) (hb : Binds X.K fd ps []) (a : AV X m (e :: es) Ts)
    (hdb : (x == ("__debug__" : Str)) = false := by decide) (he : starEach (e :: es) X.env = (false, eval e X.env) :: starEach es X.env := by rfl) (hpl : (backTo pos (starEach es X.env)).any (·.1) = false := by rfl) : EV X m (.Call (.Name x p) (e :: es) [] pos) (tCallM T Ts) := by
  obtain ⟨t, pa, h⟩ := a.ex
  refine ⟨fun env n K K' hk q => a.mono _ _ _ _ (fun xs n1 q => hm _ _ _ _ hk q) q, _, pe_callG hgd F hr hg hmg hk hb pa hdb he hpl, fun O σ H env n Q e s q => ?_⟩
  refine h O σ H env n _ e s (a.mono _ _ _ _ (fun xs n1 q => ?_) q)
  intro vs H1 k1 s1 r1
  exact call_q hm (e.kx k1 s1) k1 s1 r1 q
end
section
variable {P : Program} {w : World} {K : PySem.W.Frag} {mg : Str → Option Value} {base : Heap}
theorem fn_okG {m : Md} {x qual : Str} {st : Stmt} {f : Addr} {fd : FuncData} {N ps : List Str} {k : Nat} {T : FT} (Fn : Fun K x qual st f fd) (S : FnScope N ps (defScope st)) (len : ∀ ds n K, T ds n K → ds.length = ps.length)
    (hb : ∀ (cdv : Value) (A : Around) (outer : List Env) (s : Shared) (H : Hp) (E : XK), A.guards = some [] → Room k (A.deeper (PyProof.Rows.envOfC qual (defScope st) s.heap.objs.size f cdv)) → ∃ TS : TDS, SsV (cxOf CX0 P w K mg base N qual (defScope st) f cdv A outer s H E).nox m.nox (defBody st) TS ∧ ∀ ds n K, T ds n K → TS (Zdef K) (startE N ds) n) :
    FnG P w K mg base CX0 (k + 1) f fd ps (spM m T) := by
  refine okG Fn S (fun vs H Q E h => ?_) (fun cdv A outer s H vs Q E hg hr h => ?_)
  · obtain ⟨ds, O, n, r, _, _, _, t⟩ := h
    rw [r.length]
    exact len _ _ _ t
  · obtain ⟨ds, O, n, r, gd, old, st, t⟩ := h
    obtain ⟨TS, ⟨u, p, hz⟩, ht⟩ := hb cdv A outer s H E hg hr
    have nn : ∀ {b : Addr} {o : HO}, H b = some o → H b ≠ none := fun h => by rw [h]; exact fun z => by cases z
    exact ⟨u, p, hz ⟨H, fun a => H a ≠ none, O⟩ _ H _ n (Zdef (Out m O H Q)) _ ⟨start_ok (m := m.nox) r gd old, fun _ _ _ _ _ _ _ _ _ _ _ _ _ z => z.elim⟩ st ⟨fun σ H' env n' e' s' q => q .non H' (fun b o nd h => e'.kp b o (nn h) nd h) s' .non, fun v H' d n' k' s' r' q => q v H' (fun b o nd h => k' b o (nn h) nd h) s' r', fun σ H' env n' _ _ q => q.elim, fun σ H' env n' _ _ q => q.elim⟩ (ht ds n _ t)⟩
theorem fn_okGX {m : Md} {x qual : Str} {st : Stmt} {f : Addr} {fd : FuncData} {N ps : List Str} {k : Nat} {T : FX} (Fn : Fun K x qual st f fd) (S : FnScope N ps (defScope st)) (len : ∀ ds n K E, T ds n K E → ds.length = ps.length)
    (hb : ∀ (cdv : Value) (A : Around) (outer : List Env) (s : Shared) (H : Hp) (E : XK) (er : XD), A.guards = some [] → Room k (A.deeper (PyProof.Rows.envOfC qual (defScope st) s.heap.objs.size f cdv)) → ∃ TS : TDS, SsV (cxOf (L2.CX P w) P w K mg base N qual (defScope st) f cdv A outer s H E) (m.x (fun cls d _ H => E cls d H) fun C fs _ n => er C fs n) (defBody st) TS ∧ ∀ ds n K, T ds n K er → TS (Zdef K) (startE N ds) n) :
    FnG P w K mg base (L2.CX P w) (k + 1) f fd ps (spX m T) := by
  refine okGX Fn S (fun vs H Q E h => ?_) (fun cdv A outer s H vs Q E hg hr h => ?_)
  · obtain ⟨ds, O, n, r, _, _, _, t⟩ := h
    rw [r.length]
    exact len _ _ _ _ t
  · obtain ⟨ds, O, n, r, gd, old, st, t⟩ := h
    obtain ⟨TS, ⟨u, p, hz⟩, ht⟩ := hb cdv A outer s H E (XOut m O H E) hg hr
    have nn : ∀ {b : Addr} {o : HO}, H b = some o → H b ≠ none := fun h => by rw [h]; exact fun z => by cases z
    refine ⟨u, p, hz ⟨H, fun a => H a ≠ none, O⟩ _ H _ n (Zdef (Out m O H Q)) _ ⟨start_ok (m := m.x (fun cls d _ H => E cls d H) fun C fs _ n => XOut m O H E C fs n) r gd old, fun σ H' env n' C fs d vfs e' s' hd nd rf z => ?_⟩ st ⟨fun σ H' env n' e' s' q => q .non H' (fun b o nd h => e'.kp b o (nn h) nd h) s' .non, fun v H' d n' k' s' r' q => q v H' (fun b o nd h => k' b o (nn h) nd h) s' r', fun σ H' env n' _ _ q => q.elim, fun σ H' env n' _ _ q => q.elim⟩ (ht ds n _ t)⟩
    exact z d vfs H' (fun b o nd h => e'.kp b o (nn h) nd h) s' hd (fun z => nd (.inl z)) (rf.keep fun b o n q => ⟨q, fun z => n (.inl z)⟩)
end
end DL

set_option Elab.async false
set_option linter.all false
set_option maxRecDepth 100000
set_option maxHeartbeats 1000000
/-! DL15: the law's end, for a law's def that tells repr -/
namespace DL
open PySem L2
open PySem.Spec PyProof.Rows
section
variable {P : Program} {w : World} {K : PySem.W.Frag} {mg mb : Str → Option Value} {CX : CXT} {k : Nat} {fa a : Addr} {fd : FuncData} {x : Str} {sp : Sp} {t : Shared} {vs : List Value} {ns : List Int}
/-- what is tracked at the start: the script alone, if it is not the module's own -/
def scr (K : PySem.W.Frag) (a : Addr) (vs : List Value) (ns : List Int) : Hp := fun b => if b = a ∧ K.lookup a = none then some (.frz { cls := .type "list", data := .seq vs.toArray } (.lst (ns.map V.int))) else none
theorem scr_at {b : Addr} {o : HO} (h : scr K a vs ns b = some o) : b = a ∧ K.lookup a = none ∧ o = .frz { cls := .type "list", data := .seq vs.toArray } (.lst (ns.map V.int)) := by
  unfold scr at h
  split at h
  · rename_i c
    exact ⟨c.1, c.2, (Option.some.inj h).symm⟩
  · cases h
theorem scr_off {b : Addr} {o : Obj} (ha : t.heap.get? a = some { cls := .type "list", data := .seq vs.toArray }) (e : t.heap.get? b = some o) (hd : ∀ l n, o.data ≠ .seq l n) : scr K a vs ns b = none := by
  cases q : scr K a vs ns b with
  | none => rfl
  | some u =>
    obtain ⟨e1, _⟩ := scr_at q
    rw [e1, ha] at e
    cases e
    exact (hd _ _ rfl).elim
theorem end_callG (kin : K.In t.heap) (gl : t.heap.Ns mainGlobals mg) (bl : t.heap.Ns builtinsNs mb) (bb : ∀ x : Str, x ≠ "__name__" → mb x = bootBuiltins x) (lim : t.heap.NoLimit) (sy : ∃ mm, t.heap.Ns sysModules mm) (gn : t.gens = #[])
    (ha : t.heap.get? a = some { cls := .type "list", data := .seq vs.toArray }) (hi : IntsAre vs ns) (hl : ns.length ≤ sizeLine) (hr : Room k callerA)
    (F : ∀ base : Heap, K.In base → base.Ns mainGlobals mg → (∃ o, base.get? sysModules = some o) → FnG P w K mg base CX k fa fd [x] sp) (hb : ∀ (s : Shared) (u : Value), BindsTo s fd ⟨[u], []⟩ [(x, u)])
    (hsp : ∀ H : Hp, Only H → SqL K H a (ns.map V.int) → sp [.ref a] H (fun v _ => v = .bl true) fun _ _ _ => False) (hx : ∀ H e s', CX [] H t (fun _ _ _ => False) e s' → False) :
    codeAny (model P w) callerA (.call (.ref fa) ⟨[.ref a], []⟩) (fun r s' => r = .ok (.ret (.bool true)) ∧ OldK t.heap s'.heap ∧ s'.os = t.os ∧ AllBare s'.gens) t := by
  have rv := vals_ints hi
  have nl := hi.length
  let H := scr K a vs ns
  have only : Only H := fun b => by
    cases q : H b with
    | none => exact .inl rfl
    | some u => obtain ⟨_, _, e⟩ := scr_at q; exact .inr ⟨_, _, congrArg some e⟩
  have sq : SqL K H a (ns.map V.int) := by
    cases q : K.lookup a with
    | none => exact .inl (.inr ⟨_, if_pos ⟨rfl, q⟩⟩)
    | some o =>
      have e := kin a o q
      rw [ha] at e
      cases e
      exact .inr ⟨_, vs.toArray, _, q, rfl, rfl, rfl, by rw [List.size_toArray, nl]; exact hl, by simpa using rv⟩
  have hok : HOk P w H t.heap := fun b u q => by
    obtain ⟨e1, _, e2⟩ := scr_at q
    rw [e1, e2]
    exact ⟨ha, by rw [List.length_map]; exact hl, vs, _, rv, ha⟩
  have inB : ∀ {b : Addr} {o : Obj}, t.heap.get? b = some o → (∀ l n, o.data ≠ .seq l n) → (hidT t.heap H).get? b = some o := fun e hd => hidT_get e (scr_off ha e hd)
  have nsB : ∀ {b : Addr} {m : Str → Option Value}, t.heap.Ns b m → (hidT t.heap H).Ns b m := fun ⟨o, es, ep, e, d, r⟩ => ⟨o, es, ep, inB e (fun l n z => by rw [d] at z; cases z), d, r⟩
  have kinB : K.In (hidT t.heap H) := fun b o e => hidT_get (kin b o e) (by
    cases q : H b with
    | none => rfl
    | some u =>
      obtain ⟨e1, e2, _⟩ := scr_at q
      rw [e1, e2] at e
      cases e)
  obtain ⟨mc, l1, l2⟩ := lim
  obtain ⟨mm, o, es, ep, y1, y2, y3⟩ := sy
  have e0 : Env0 P w K mg (hidT t.heap H) callerA [] t H := ⟨rfl, ⟨kinB, nsB gl, ⟨mb, nsB bl, bb⟩, ⟨mc, nsB l1, l2⟩⟩, fun b o e => of_hidT e, Nat.le_of_eq (hidT_size _ _), trivial, (fun b hb => by cases hb), hok, .of_eq gn⟩
  refine codeAny_mono ((F _ kinB (nsB gl) ⟨o, inB y1 (fun l n z => by rw [y2] at z; cases z)⟩).run callerA [] t H ⟨[.ref a], []⟩ [.ref a] [.ref a] _ _ rfl hr e0 (hb t (.ref a)) (.cons rfl .nil) (hsp H only sq)) fun r s' h => ?_
  match r, h with
  | .error e, h => exact (hx H e s' h).elim
  | .ok (.ret u), ⟨v, H', os, bare, un, hok', r', q⟩ =>
    have q' : v = .bl true := q
    subst q'
    obtain rfl : u = Value.bool true := r'
    refine ⟨rfl, OldK.of_keep fun b o e => ?_, os, bare⟩
    cases q : H b with
    | none => exact un.keep b o e q (fun z => nomatch z) (fun z => nomatch z)
    | some u =>
      obtain ⟨e1, _, e2⟩ := scr_at q
      subst e2
      obtain ⟨g1, _⟩ := hok' b _ (un.frzs b _ _ q)
      rw [e1] at e ⊢
      rw [ha] at e
      cases e
      rw [e1] at g1
      exact g1
end
theorem walk_ofG {l : PySem.W.OpenLaw} {n k : Nat} {q : Program} {loose : List Str} {XP : (Str → Option Value) → Heap → Prop} {YP : World → Heap → Prop} {d : DefRec} {K : Params → PySem.W.Frag} {CX : World → CXT} {sp : World → Sp} {x : Str}
    (hn : l.most = some n) (hn2 : n ≤ sizeLine) (hdf : d.params.defaults = []) (hr : Room k callerA) (hi : importsNone q = true)
    (hY : ∀ (w : World) (h : Heap), YP w h → (K w.params).In h)
    (F : ∀ (w : World) (mg : Str → Option Value) (fa : Addr) (h : Heap), (K w.params).In h → h.Ns mainGlobals mg → mg d.name = some (.ref fa) →
      ∃ fd : FuncData, (∀ (s : Shared) (u : Value), BindsTo s fd ⟨[u], []⟩ [(x, u)]) ∧
        ∀ base : Heap, (K w.params).In base → base.Ns mainGlobals mg → (∃ o, base.get? sysModules = some o) → FnG l.prog w (K w.params) mg base (CX w) k fa fd [x] (sp w))
    (hsp : ∀ (w : World) (H : Hp) (a : Addr) (ns : List Int), ns.length ≤ n → Only H → SqL (K w.params) H a (ns.map V.int) → sp w [.ref a] H (fun v _ => v = .bl true) fun _ _ _ => False)
    (hCX : ∀ (w : World) (H : Hp) (s : Shared) (e : Value) (s' : Shared), CX w [] H s (fun _ _ _ => False) e s' → False) :
    PySem.W.WalkO q loose XP YP l.row.toRowW d [] (fun f vs => PySem.call f vs) := by
  refine Att.attach_call hn hdf fun w s₀ t mg mb fa o pm cd doc a vs ns G Y ho hd hcd hmg hobj hints hlen hg => ?_
  obtain ⟨fd, hb, hF⟩ := F w mg fa _ (hY w _ Y) G.T.g hmg
  obtain ⟨mm, hm, _⟩ := (PyProof.Rows.Top.seer G.T hi).mods
  exact end_callG (hY w _ Y) G.T.g G.T.b G.T.builtins G.T.nolimit ⟨mm, hm⟩ hg hobj hints (Nat.le_trans hlen hn2) hr hF hb (fun H hO hS => hsp w H a ns hlen hO hS) fun H e s' => hCX w H t e s'
end DL

set_option Elab.async false
set_option linter.all false
set_option maxRecDepth 100000
set_option maxHeartbeats 1000000
/-! DL16: a tuple, a list turned round; own len, own !=; a dict comprehension's walk -/
namespace DL
open PySem L2
section
open PySem.Spec PyProof.Rows HT
variable {prog : Program} {w : World} {A : Around} {E : Value → Shared → Prop} {s : Shared}
theorem rev_places (n : Nat) : Builtin.Slice.slicePlaces ((n : Int) - 1) (-1) (-1) = n := by
  unfold Builtin.Slice.slicePlaces
  simp only [show ¬ ((-1 : Int) > 0) by decide, if_false]
  split <;> (try simp only [Int.ediv_one, show (- -1 : Int) = 1 by decide]) <;> omega
theorem rev_adjust (n : Nat) : Builtin.Slice.sliceAdjust none none (-1) (n : Int) = ((n : Int) - 1, -1) := by
  unfold Builtin.Slice.sliceAdjust
  simp
theorem rev_applied {sl : Addr} {vl vu vs : Value} {n : Nat} {Q : Int × Int × Nat → Shared → Prop} (hs : s.heap.IsSliceOf sl vl vu vs) (pl : IsPart vl none) (pu : IsPart vu none) (ps : IsPart vs (some (-1))) (h : Q ((n : Int) - 1, -1, n) s) :
    wpAny (model prog w) A (Builtin.Slice.sliceApplied (.ref sl) (pure (n : Int))) Q E s := by
  obtain ⟨o, ho, hc, hd⟩ := id hs
  unfold Builtin.Slice.sliceApplied Builtin.Slice.sliceFields
  refine wpAny_bind (wpAny_bind (wpAny_field ho hd (x := vl) rfl (wpAny_bind (wpAny_field ho hd (x := vu) rfl (wpAny_bind (wpAny_field ho hd (x := vs) rfl (wpAny_pure ?_)))))))
  refine wpAny_bind (slicePart_ ps ?_)
  show wpAny _ _ (if ((-1 : Int) == 0) = true then _ else _) _ _ s
  rw [if_neg (by decide)]
  refine wpAny_bind (slicePart_ pl (wpAny_bind (slicePart_ pu (wpAny_bind (wpAny_pure ?_)))))
  show wpAny _ _ (match Builtin.Slice.sliceAdjust none none (-1) (n : Int) with | (lo, hi) => pure (lo, (-1 : Int), Builtin.Slice.slicePlaces lo hi (-1))) _ _ s
  rw [rev_adjust]
  show wpAny _ _ (pure ((n : Int) - 1, (-1 : Int), Builtin.Slice.slicePlaces ((n : Int) - 1) (-1) (-1))) _ _ s
  rw [rev_places]
  exact wpAny_pure h
theorem fm_congr {α β : Type} {f g : α → Option β} : ∀ l : List α, (∀ a ∈ l, f a = g a) → l.filterMap f = l.filterMap g
  | [], _ => rfl
  | a :: l, h => by rw [List.filterMap_cons, List.filterMap_cons, h a (List.mem_cons_self ..), fm_congr l fun b hb => h b (List.mem_cons_of_mem _ hb)]
theorem rev_pick (xs : Array Value) : ((List.range xs.size).filterMap fun (m : Nat) => xs[(((xs.size : Int) - 1) + (m : Int) * -1).toNat]?).toArray = xs.toList.reverse.toArray := by
  have e : ∀ m ∈ List.range xs.size, xs[(((xs.size : Int) - 1) + (m : Int) * -1).toNat]? = ((xs[·]?) ∘ fun k => xs.size - 1 - k) m := fun m hm => by
    have := List.mem_range.mp hm
    have q : (((xs.size : Int) - 1) + (m : Int) * -1).toNat = xs.size - 1 - m := by omega
    show _ = xs[xs.size - 1 - m]?
    rw [q]
  rw [fm_congr _ e, ← List.filterMap_map, PySem.W.krv_range, List.filterMap_reverse, PySem.W.krv_all]
theorem rev_getItem {t sl : Addr} {items : Array Value} {vl vu vs : Value} {Q : Value → Shared → Prop} (ht : IsTup s.heap t items) (hs : s.heap.IsSliceOf sl vl vu vs) (pl : IsPart vl none) (pu : IsPart vu none) (ps : IsPart vs (some (-1)))
    (h : Q (.ref s.heap.objs.size) { s with heap := s.heap.push { cls := .type "tuple", data := .seq items.toList.reverse.toArray } }) (hsz : items.size ≤ sizeLine) : wpAny (model prog w) A (getItem (.ref t) (.ref sl)) Q E s := by
  have fits : sizeOk (.seq items.toList.reverse.toArray) := by
    show items.toList.reverse.toArray.size ≤ sizeLine
    simpa using hsz
  obtain ⟨o, ho, hc, hd⟩ := id hs
  have ty : s.TypeIs (.ref sl) "slice" := ⟨o, ho, hc⟩
  unfold getItem
  (try with_reducible refine wpAny_holding ?_); (first | refine wpAny_bind (wpAny_pure ?_) | skip); refine wpAny_bind (wpAny_sequenceKey ht.typeIs (by decide) ?_)
  refine wpAny_bind (wpAny_callSpecial?_slot (name := Str.ofString "__getitem__") ht.typeIs PyProof.Rows.slot_tuple_getitem (wpAny_call_entry PyProof.Rows.slot_tuple_getitem ht.typeIs entry_tuple_getitem ?_ (args_tuple_getitem _ _)))
  show wpAny _ _ (Builtin.Tuple.tupleItemsOf (.ref t) >>= _) _ _ s
  refine wpAny_bind (tupleItemsOf_ ht (wpAny_bind (wpAny_typeOf ty ?_))); rw [if_pos (by decide)]; refine wpAny_bind (rev_applied hs pl pu ps ?_)
  have no : ¬ ((((items.size : Int) - 1) == 0 && (-1 : Int) == 1 && items.size == items.size) = true) := by
    rw [show ((-1 : Int) == 1) = false by decide, Bool.and_false, Bool.false_and]
    exact Bool.false_ne_true
  show wpAny _ _ (if (((items.size : Int) - 1) == 0 && (-1 : Int) == 1 && items.size == items.size) = true then _ else _) _ _ s
  rw [if_neg no, rev_pick]
  first
    | exact wpAny_bind (m := Builtin.Tuple.tupleExact _) (wpAny_newObj_type (wpAny_pure ⟨_, rfl, wpAny_pure h⟩) fits)
    | exact wpAny_bind (m := Builtin.Tuple.tupleExact _) (wpAny_newObj_type (wpAny_bind (wpAny_pure (wpAny_pure ⟨_, rfl, wpAny_pure h⟩))) fits)
    | exact wpAny_bind (wpAny_bind (m := Builtin.Tuple.tupleExact _) (wpAny_newObj_type (wpAny_pure (wpAny_pure ⟨_, rfl, wpAny_pure h⟩)) fits))
    | exact wpAny_bind (wpAny_bind (m := Builtin.Tuple.tupleExact _) (wpAny_newObj_type (wpAny_pure ⟨_, rfl, wpAny_pure h⟩) fits))
/-- t[::-1] of a tuple -/
def tRevT (K : PySem.W.Frag) (te : TE) : TE := fun σ H Q => te σ H fun x H1 => ∃ a xs, x = .ref a ∧ SqT K H1 a xs ∧ ∀ p, H1 p = none → Q (.ref p) (upd H1 p (.tup xs.reverse))
theorem pe_revT {X : Cx} {e : Expr} {te : TE} {k : Nat} {p1 p2 p3 pos : Pos} (he : PE X e te) : PE X (.Subscript e (.Slice none none (some (.UnaryOp .USub (.Constant (.int 1) k p1) p2)) p3) pos) (tRevT X.K te) := by
  refine ⟨fun pins s σ H Q I h => ?_⟩
  refine Subscript_ (thn (he.run pins s σ H _ I h) fun v s1 ⟨x, H1, I1, r1, a, xs, ex, hx, q⟩ => ?_)
  subst ex
  cases r1
  have st : PO X (some (.UnaryOp .USub (.Constant (.int 1) k p1) p2)) (tPart (tUn (rU fun i => .int (-i)) (tC (.int 1)))) := po_some (pe_un un_neg pe_int)
  refine wpAny_Slice (thn (po_none.run pins s1 σ H1 (fun o H2 => o = none ∧ H2 = H1) I1 ⟨rfl, rfl⟩) fun vl s2 ⟨l, H2, I2, pl, el, e2⟩ => ?_)
  subst el; subst e2
  refine thn (po_none.run pins s2 σ H2 (fun o H3 => o = none ∧ H3 = H2) I2 ⟨rfl, rfl⟩) fun vu s3 ⟨u, H3, I3, pu, eu, e3⟩ => ?_
  subst eu; subst e3
  refine thn (st.run pins s3 σ H3 (fun o H4 => o = some (-1) ∧ H4 = H3) I3 ⟨1, rfl, -1, rfl, rfl, rfl⟩) fun vs s4 ⟨o, H4, I4, ps, eo, e4⟩ => ?_
  subst eo; subst e4
  have I5 : Inv X pins σ H4 { s4 with heap := s4.heap.push { cls := .type "slice", data := .fields #[vl, vu, vs] } } := I4.kept (t' := s4.toks) fun b ob z => Heap.get?_push_of_some _ z
  obtain ⟨its, r, ht, hz⟩ := I5.tuple hx
  have hlen := r.length
  show wpAny (model X.prog X.w) X.A (subscriptTail e (.Slice none none (some (.UnaryOp .USub (.Constant (.int 1) k p1) p2)) p3) (.ref a) (.ref s4.heap.objs.size)) (EP X pins σ Q) X.xe { s4 with heap := s4.heap.push { cls := .type "slice", data := .fields #[vl, vu, vs] } }
  refine tail_any (ops := [.ref a, .ref s4.heap.objs.size]) ht.typeIs (PyProof.Rows.slot_tuple_getitem.lookup) ?_ (by with_unfolding_all rfl)
  refine rev_getItem ht (Heap.IsSliceOf.new _ vl vu vs) pl pu ps ?_ (by rw [List.size_toArray]; omega)
  refine ⟨.ref _, _, I5.laid (t' := s4.toks) (o := .tup xs.reverse) (fun b ob z => Heap.get?_push_of_some _ z) (Nat.le_refl _) ?_, rfl, q _ (I5.hok.fresh (Nat.le_refl _))⟩
  exact ⟨by rw [List.length_reverse]; exact hz, _, r.reverse, _, Heap.get?_push_size _ rfl, rfl, _, rfl⟩
end
theorem Rs.reverse {O : Addr → Prop} {H : Hp} : ∀ {xs : List V} {ds : List D}, Rs O H xs ds → Rs O H xs.reverse ds.reverse
  | _, _, .nil => .nil
  | _, _, .cons h r => by rw [List.reverse_cons, List.reverse_cons]; exact r.reverse.append (.cons h .nil)
section
variable {X : Cx} {m : Md}
def tRevTD (T : TD) : TD := fun env n K => T env n fun d n1 => ∃ l, d = .tup l ∧ K (.tup l.reverse) n1
def tRevLD (T : TD) : TD := fun env n K => T env n fun d n1 => ∃ l, d = .lst l ∧ K (.lst l.reverse) n1
theorem v_revT {e : Expr} {T : TD} {k : Nat} {p1 p2 p3 pos : Pos} (a : EV X m e T) : EV X m (.Subscript e (.Slice none none (some (.UnaryOp .USub (.Constant (.int 1) k p1) p2)) p3) pos) (tRevTD T) := by
  obtain ⟨t, p, h⟩ := a.ex
  refine ⟨fun env n K K' hk q => a.mono _ _ _ _ (fun d n1 ⟨l, e, q⟩ => ⟨l, e, hk _ _ q⟩) q, _, pe_revT p, fun O σ H env n Q e s q => ?_⟩
  refine h O σ H env n _ e s (a.mono _ _ _ _ (fun d n1 ⟨l, ed, q⟩ => ?_) q)
  intro v H1 k1 s1 r1
  subst ed
  cases r1 with
  | tup n0 h0 rs => exact ⟨_, _, rfl, .inl (.inl h0), fun p hp => out_new (out_trans k1 q) s1 hp (r_tup hp ((e.kx k1 s1).new hp) rs.reverse)⟩
theorem v_revL {e : Expr} {T : TD} {k : Nat} {p1 p2 p3 pos : Pos} (a : EV X m e T) : EV X m (.Subscript e (.Slice none none (some (.UnaryOp .USub (.Constant (.int 1) k p1) p2)) p3) pos) (tRevLD T) := by
  obtain ⟨t, p, h⟩ := a.ex
  refine ⟨fun env n K K' hk q => a.mono _ _ _ _ (fun d n1 ⟨l, e, q⟩ => ⟨l, e, hk _ _ q⟩) q, _, pe_revL p, fun O σ H env n Q e s q => ?_⟩
  refine h O σ H env n _ e s (a.mono _ _ _ _ (fun d n1 ⟨l, ed, q⟩ => ?_) q)
  intro v H1 k1 s1 r1
  subst ed
  cases r1 with
  | lst n0 h0 rs => exact ⟨_, _, rfl, .inl (.inl h0), fun p hp => out_new (out_trans k1 q) s1 hp (r_lst hp ((e.kx k1 s1).new hp) rs.reverse)⟩
end
end DL

set_option Elab.async false
set_option linter.all false
set_option maxRecDepth 100000
set_option maxHeartbeats 1000000
/-! DL17: own len, own !=; methods called by keywords; a dict comprehension over the keys of a dict -/
namespace DL
open PySem L2
/-! ### len and != of an own class -/
section
variable {X : Cx} {CX : CXT} {n : Nat} {C f : Addr} {fd : FuncData} {ps : List Str} {sp : Sp}
open PySem PySem.Spec PyProof.Rows in
theorem call_lenOwn (F : FnOk X.prog X.w X.K X.mg X.base CX n f fd ps sp) (hr : Room (n + 1) X.A) (hs : PySem.W.findIn X.K (.ref C) "__len__" = some (some (.ref f))) (hf : PySem.W.isFn X.K (.ref f) = true) (hb : Binds X.K fd ps []) (hx : Passes CX X E0) :
    CallR X (.builtin "len") (fun xs H Q => ∃ a dx fs, xs = [V.ref a] ∧ H a = some (.ins C dx fs) ∧ sp [.ref a] H (fun v H' => ∃ i : Int, v = .int i ∧ (0 ≤ i ∧ i < 2 ^ 63) ∧ Q (.int i) H') E0) := by
  intro pins s σ H xs us Q I r h
  obtain ⟨a, dx, fs, rfl, ha, q⟩ := h
  obtain ⟨u, rfl, e⟩ := vals1 r
  cases (show u = Value.ref a from e)
  obtain ⟨mA, J, _⟩ := ins_get I.hok ha
  obtain ⟨od, J, _⟩ := J.look
  obtain ⟨m, hF⟩ := I.fr
  refine PySem.W.len_K hF I.ok.mod.kin J hs hf ?_
  have hl := F.len _ _ _ _ q
  refine wpAny_call (codeAny_mono (F.run X.A.in1 X.stack s H ⟨[.ref a], []⟩ [.ref a] [.ref a] _ E0 hr.in1 I.env0.in1 (by
    have := hb s [.ref a] I.kIn (by simpa using hl)
    simpa using this) (.cons rfl .nil) q) fun r s' hq => ?_)
  cases r with
  | error e => exact hx pins σ H s e s' I hq
  | ok fl =>
    cases fl with
    | ret z =>
      obtain ⟨v, H', I', rz, i, ev, b, q'⟩ := I.after hq
      subst ev
      obtain ⟨t, rfl⟩ := rz
      exact ⟨b, .int i, H', I'.tok _, ⟨_, rfl⟩, q'⟩
    | next => exact False.elim hq
    | brk => exact False.elim hq
    | cont => exact False.elim hq
end
section
variable {X : Cx} {CX : CXT} {n : Nat} {C f : Addr} {fd : FuncData} {ps : List Str} {sp : Sp}
open PySem PySem.Spec PyProof.Rows in
theorem op_neOwn (F : FnOk X.prog X.w X.K X.mg X.base CX n f fd ps sp) (hr : Room (n + 3) X.A) (hs : PySem.W.findIn X.K (.ref C) "__ne__" = some (some (.builtin "object.__ne__"))) (he : PySem.W.findIn X.K (.ref C) "__eq__" = some (some (.ref f))) (hf : PySem.W.isFn X.K (.ref f) = true)
    (ho : PySem.W.mroIn X.K C (.type "object") = some true) (hb : Binds X.K fd ps []) (hx : Passes CX X E0) :
    OpR X (compareOp .NotEq) (fun x y H Q => ∃ a b dx dy fs gs, x = V.ref a ∧ y = V.ref b ∧ H a = some (.ins C dx fs) ∧ H b = some (.ins C dy gs) ∧ sp [.ref a, .ref b] H (fun v H' => ∃ k : Bool, v = .bl k ∧ Q (.bl (!k)) H') E0) := by
  intro pins s σ H x y v u Q I rx ry h
  obtain ⟨a, b, dx, dy, fs, gs, rfl, rfl, ha, hb', q⟩ := h
  cases rx
  cases ry
  obtain ⟨mA, J, _⟩ := ins_get I.hok ha
  obtain ⟨mB, J', _⟩ := ins_get I.hok hb'
  obtain ⟨od, J, _⟩ := J.look
  obtain ⟨od', J', _⟩ := J'.look
  have KI := I.kIn
  have S := PySem.F.cmp_object.ne
  have hl := F.len _ _ _ _ q
  have hu1 : X.A.in1.units < cLine := by
    have := hr.un
    show X.A.units + 1 < cLine
    omega
  -- the own == at two levels deeper
  have own : wpAny (model X.prog X.w) X.A.in1 (call (.ref f) [.ref a, .ref b]) (fun r s' => ∃ k, r = Value.bool k ∧ EP X pins σ Q (Value.bool (!k)) s') X.xe s := by
    refine wpAny_call (codeAny_mono (F.run X.A.in1 X.stack s H ⟨[.ref a, .ref b], []⟩ [.ref a, .ref b] [.ref a, .ref b] _ E0 (hr.in1.mono (by omega)) I.env0.in1 (by
      have := hb s [.ref a, .ref b] I.kIn (by simpa using hl)
      simpa using this) (.cons rfl (.cons rfl .nil)) q) fun r s' hq => ?_)
    cases r with
    | error e => exact hx pins σ H s e s' I hq
    | ok fl =>
      cases fl with
      | ret z =>
        obtain ⟨v, H', I', rz, k, ev, q'⟩ := I.after hq
        subst ev
        cases (show z = Value.bool k from rz)
        exact ⟨k, rfl, .bl (!k), H', I', rfl, q'⟩
      | next => exact False.elim hq
      | brk => exact False.elim hq
      | cont => exact False.elim hq
  have sub : PySem.W.Looks (model X.prog X.w) s.heap (isInstance (.ref a) (.type "object")) true := J.type.andThen (PySem.W.looks_mroIn KI ho)
  have body : wpAny (model X.prog X.w) X.A.in1 (Builtin.«object.__ne__» ⟨[.ref a, .ref b], []⟩) (fun r s' => ∃ k, r = Fin.done (.ret (Value.bool (!k))) ∧ EP X pins σ Q (Value.bool (!k)) s') X.xe s := by
    unfold Builtin.«object.__ne__»
    refine wpAny_bind (wpAny_of_eq (a := (Value.ref a, [Value.ref b])) rfl ?_)
    refine wpAny_bind (wpAny_cRoomFor hu1 ?_)
    refine wpAny_bind (PySem.W.ifBound_K KI J he hf (wpAny_mono own (fun r s' hq => ?_) fun _ _ e => e))
    obtain ⟨k, rfl, hq⟩ := hq
    refine wpAny_bind (wpAny_truthy_bool ?_)
    exact wpAny_pure ⟨k, rfl, hq⟩
  have ne : wpAny (model X.prog X.w) X.A (call (.builtin "object.__ne__") [.ref a, .ref b]) (fun r s' => ∃ k, r = Value.bool k ∧ EP X pins σ Q (Value.bool k) s') X.xe s := by
    refine wpAny_call (codeAny_call_builtin S.plain PySem.F.cmpEntry_ne (@PySem.W.check_slot (model X.prog X.w) _ _ s "object.__ne__" "object" "__ne__" (.ref a) [.ref b] [] _ PySem.F.cmpKind_ne PySem.F.cmpSplit_ne sub (PySem.F.cmpArgs_ne _ _) ?_))
    refine wpAny_mono body (fun r s' hq => ?_) fun _ _ e => e
    obtain ⟨k, rfl, hq⟩ := hq
    exact ⟨!k, rfl, hq⟩
  have one : wpAny (model X.prog X.w) X.A (tryCompare (.ref a) (cmpInfo .NotEq).2.1 (.ref b)) (fun r s' => ∃ v, r = some v ∧ EP X pins σ Q v s') X.xe s := by
    unfold tryCompare
    have bnd : wpAny (model X.prog X.w) X.A (callSpecialIfBound? (.ref a) (cmpInfo .NotEq).2.1 [.ref b]) (fun r s' => ∃ k, r = some (Value.bool k) ∧ EP X pins σ Q (Value.bool k) s') X.xe s := by
      show wpAny (model X.prog X.w) X.A (callSpecialIfBound? (.ref a) "__ne__" [.ref b]) _ X.xe s
      simp only [callSpecialIfBound?, bindSpecialIfBound?]
      refine wpAny_holding (wpAny_bind (wpAny_bind (wpAny_bind (J.type.here ((PySem.W.looks_findIn KI hs).here ?_)))))
      refine wpAny_bind (wpAny_askSetting (wpAny_ite ?_))
      have fin : wpAny (model X.prog X.w) X.A (call (.builtin "object.__ne__") ([.ref a] ++ [.ref b]) >>= fun v => pure (some v)) (fun r s' => ∃ k, r = some (Value.bool k) ∧ EP X pins σ Q (Value.bool k) s') X.xe s :=
        wpAny_bind (wpAny_mono ne (fun v s' hv => wpAny_pure (by obtain ⟨k, rfl, hq⟩ := hv; exact ⟨k, rfl, hq⟩)) fun _ _ e => e)
      split
      · simp only [S.bind]
        exact wpAny_bind (wpAny_pure (wpAny_pure (by exact fin)))
      · simp only [S.bind]
        exact wpAny_tryCatch (wpAny_bind (wpAny_pure (wpAny_pure (by exact fin))))
    refine wpAny_bind (wpAny_mono bnd (fun r s' hq => ?_) fun _ _ e => e)
    obtain ⟨k, rfl, hq⟩ := hq
    exact wpAny_pure ⟨_, rfl, hq⟩
  show wpAny _ _ (richCompare .NotEq (.ref a) (.ref b)) _ _ s
  unfold richCompare
  simp only [oneThing_ref]
  have hu0 : X.A.units < cLine := by
    have := hr.un
    omega
  refine wpAny_holding (wpAny_bind (wpAny_cRoomFor hu0 ?_))
  refine wpAny_bind (J.type.here (wpAny_bind (J'.type.here ?_)))
  rw [show (Value.ref C != Value.ref C) = false from by simp]
  simp only [Bool.false_eq_true, if_false]
  refine wpAny_bind (wpAny_pure ?_)
  simp only [Bool.false_eq_true, if_false]
  refine wpAny_bind (wpAny_mono one (fun r s' z => ?_) fun _ _ e => e)
  obtain ⟨v, rfl, hq⟩ := z
  exact wpAny_pure hq
end

/-! ### over data -/
section
def rLenO (C : Addr) (sp : Sp) : List V → Hp → VK → Prop := fun xs H Q => ∃ a dx fs, xs = [V.ref a] ∧ H a = some (.ins C dx fs) ∧ sp [.ref a] H (fun v H' => ∃ i : Int, v = .int i ∧ (0 ≤ i ∧ i < 2 ^ 63) ∧ Q (.int i) H') E0
def cLenO (C : Addr) (T : CD) : CD := fun xs K => ∃ l, xs = [.obj C l] ∧ T xs fun d => ∃ i, d = .int i ∧ (0 ≤ i ∧ i < 2 ^ 63) ∧ K (.int i)
theorem k_lenO {C : Addr} {T : CD} (hm : CMono T) : CallD (rLenO C (spP T)) (cLenO C T) where
  mono := fun xs K K' h ⟨l, a, k⟩ => ⟨l, a, hm _ _ _ (fun d ⟨i, e, b, k⟩ => ⟨i, e, b, h _ k⟩) k⟩
  run := fun m O H n vs xs Q gd old st r ⟨l, a, k⟩ => by
    subst a
    cases id r with
    | cons r1 r2 =>
      cases r2
      cases r1 with
      | obj n0 h0 s0 =>
        refine ⟨_, _, _, rfl, h0, [.obj C l], O, r, old, hm _ _ _ (fun d ⟨i, e, b, k⟩ => ?_) k⟩
        intro v H' sm rv
        subst e
        cases rv
        exact ⟨i, rfl, b, k _ H' (fun b o _ e => sm b o e) (m.keep n H H' st fun a o _ e => sm a o e) (.int i)⟩
def rNeO (C : Addr) (sp : Sp) : R2 := fun x y H Q => ∃ a b dx dy fs gs, x = V.ref a ∧ y = V.ref b ∧ H a = some (.ins C dx fs) ∧ H b = some (.ins C dy gs) ∧ sp [.ref a, .ref b] H (fun v H' => ∃ k : Bool, v = .bl k ∧ Q (.bl (!k)) H') E0
def dNeO (C : Addr) (T : CD) : RD := fun x y K => ∃ l l', x = .obj C l ∧ y = .obj C l' ∧ T [x, y] fun d => ∃ k, d = .bl k ∧ K (.bl (!k))
theorem o_neO {C : Addr} {T : CD} (hm : CMono T) : OpD (rNeO C (spP T)) (dNeO C T) where
  mono := fun x y K K' h ⟨l, l', a, b, k⟩ => ⟨l, l', a, b, hm _ _ _ (fun d ⟨i, e, k⟩ => ⟨i, e, h _ k⟩) k⟩
  run := fun m O H n v w x y Q gd old st r1 r2 ⟨l, l', a, b, k⟩ => by
    subst a; subst b
    cases id r1 with
    | obj n0 h0 s0 =>
      cases id r2 with
      | obj n1 h1 s1 =>
        refine ⟨_, _, _, _, _, _, rfl, rfl, h0, h1, [.obj C l, .obj C l'], O, .cons r1 (.cons r2 .nil), old, hm _ _ _ (fun d ⟨i, e, k⟩ => ?_) k⟩
        intro v H' sm rv
        subst e
        cases rv
        exact ⟨i, rfl, k _ H' (fun b o _ e => sm b o e) (m.keep n H H' st fun a o _ e => sm a o e) (.bl _)⟩
end
/-! ### o.m(k = v, ..) -/
structure KV' (X : Cx) (m : Md) (kws : List Keyword) (T : TDs) : Prop where
  mono : ∀ env n K K', (∀ d n, K d n → K' d n) → T env n K → T env n K'
  ex : ∃ t, PK X kws t ∧ ∀ O σ H env n Q, EE m O σ H env → m.St n H → T env n (Outs m O H Q) → t σ H Q
section
variable {X : Cx} {m : Md}
theorem kw_nil : KV' X m [] tsNil := ⟨fun _ n _ _ h k => h _ _ k, _, pk_nil, fun O σ H env n Q e s k => k [] H KX.refl s .nil⟩
theorem kw_cons {nm : Option Str} {kpos : Pos} {e : Expr} {kws : List Keyword} {Ta : TD} {Ts : TDs} (a : EV X m e Ta) (b : KV' X m kws Ts) : KV' X m (⟨nm, e, kpos⟩ :: kws) (tsCons Ta Ts) := by
  obtain ⟨ta, pa, ha⟩ := a.ex
  obtain ⟨tb, pb, hb⟩ := b.ex
  refine ⟨fun env n K K' h q => a.mono _ _ _ _ (fun x n1 q => b.mono _ _ _ _ (fun y n2 k => h _ _ k) q) q, _, pk_cons pa pb, fun O σ H env n Q e s q => ?_⟩
  refine ha O σ H env n _ e s (a.mono _ _ _ _ (fun x n1 q => ?_) q)
  intro v H1 k1 s1 r1
  have e1 := e.kx k1 s1
  refine hb O σ H1 env n1 _ e1 s1 (b.mono _ _ _ _ (fun xs n2 q2 => ?_) q)
  intro vs H2 k2 s2 r2
  exact q2 _ H2 (k1.trans k2) s2 (.cons (r1.kx (k2.mono fun x h => e.gd x (m.dg x h))) r2)
theorem pe_methK {pl : Sem Bool} {C : Addr} {mn : Str} {k : Nat} {f : Addr} {fd : FuncData} {ps ks : List Str} {sp : Sp} {g : List Value → List Value → List Value} {gV : List V → List V → List V} {o : Expr} {kws : List Keyword} {ta : TE} {tk : TA} {apos pos : Pos} (he : PE X o ta) (c : Cls X.K C) (hm : Meth X.K C mn f) (F : FnOk X.prog X.w X.K X.mg X.base CX0 k f fd ps sp) (hr : Room k X.A) (hb : KBinds X.K fd ps ks g gV) (hkw : PK X kws tk)
    (hall : (backToKw pos (keywordEach kws X.env)).all (·.1.isSome) = true := by rfl) (hks : (backToKw pos (keywordEach kws X.env)).filterMap (·.1) = ks := by rfl)
    (hpl : ((backTo pos (starEach [] X.env)).any (·.1) || (backToKw pos (keywordEach kws X.env)).any (·.1.isNone)) = false := by rfl)
    (ht : eval (.Call (.Attribute o mn apos) [] kws pos) X.env = (do
      let ov ← eval o X.env
      standAt apos.atName
      let (f, first) ← holding [ov] (getMethod ov mn pl)
      callWith pos f first (backTo pos (starEach [] X.env)) (backToKw pos (keywordEach kws X.env))) := by rfl) :
    PE X (.Call (.Attribute o mn apos) [] kws pos) (fun σ H Q => ta σ H fun x H1 => ∃ a dx fs, x = .ref a ∧ H1 a = some (.ins C dx fs) ∧ fs.lookup mn = none ∧ tk σ H1 fun zs H2 => sp (gV [x] zs) H2 Q E0) := by
  refine ⟨fun pins s σ H Q I h => ?_⟩
  refine PySem.W.methodCall_KW (pl := pl) (thn (he.run pins s σ H _ I h) fun u s1 ⟨x, H1, I1, rx, a, dx, fs, ex, ea, l, q⟩ => ?_) ht
  subst ex
  obtain rfl : u = Value.ref a := rx
  refine getmeth_ok I1 ea c hm l ?_
  refine PySem.W.callWith_KW0 (first := [.ref a]) (h₀ := X.base) I.ok.mod.kin hm.kp hall (thn (hkw.run pos pins s1 σ H1 _ I1 q) fun ws s2 ⟨zs, H2, I2, rz, q2⟩ => ⟨I2.kIn, ?_⟩) hpl
  rw [hks]
  exact run_fnk (us := [.ref a]) (vs := [.ref a]) F hr hb pass0 I2 (.cons rfl .nil) rz q2
def tMethK (C : Addr) (mn : Str) (gD : D → List D → List D) (T : FT) (Ta : TD) (Ts : TDs) : TD := fun env n K => Ta env n fun d n1 => ∃ l, d = .obj C l ∧ l.lookup mn = none ∧ Ts env n1 fun xs n2 => T (gD d xs) n2 K
theorem v_methK {pl : Sem Bool} {C : Addr} {mn : Str} {k : Nat} {f : Addr} {fd : FuncData} {ps ks : List Str} {T : FT} {g : List Value → List Value → List Value} {gV : List V → List V → List V} {gD : D → List D → List D} {o : Expr} {kws : List Keyword} {Ta : TD} {Ts : TDs} {apos pos : Pos} (a : EV X m o Ta) (c : Cls X.K C) (hmt : Meth X.K C mn f) (F : FnOk X.prog X.w X.K X.mg X.base CX0 k f fd ps (spM m T)) (hm : FMono T) (hr : Room k X.A) (hb : KBinds X.K fd ps ks g gV) (b : KV' X m kws Ts)
    (hgV : ∀ O H v d vs ds, R O H v d → Rs O H vs ds → Rs O H (gV [v] vs) (gD d ds))
    (hall : (backToKw pos (keywordEach kws X.env)).all (·.1.isSome) = true := by rfl) (hks : (backToKw pos (keywordEach kws X.env)).filterMap (·.1) = ks := by rfl)
    (hpl : ((backTo pos (starEach [] X.env)).any (·.1) || (backToKw pos (keywordEach kws X.env)).any (·.1.isNone)) = false := by rfl)
    (ht : eval (.Call (.Attribute o mn apos) [] kws pos) X.env = (do
      let ov ← eval o X.env
      standAt apos.atName
      let (f, first) ← holding [ov] (getMethod ov mn pl)
      callWith pos f first (backTo pos (starEach [] X.env)) (backToKw pos (keywordEach kws X.env))) := by rfl) : EV X m (.Call (.Attribute o mn apos) [] kws pos) (tMethK C mn gD T Ta Ts) := by
  obtain ⟨ta, po, ho⟩ := a.ex
  obtain ⟨t, pa, h⟩ := b.ex
  refine ⟨fun env n K K' hk q => a.mono _ _ _ _ (fun d n1 ⟨l, e1, e2, q⟩ => ⟨l, e1, e2, b.mono _ _ _ _ (fun xs n2 q => hm _ _ _ _ hk q) q⟩) q, _, pe_methK (pl := pl) po c hmt F hr hb pa hall hks hpl ht, fun O σ H env n Q e s q => ?_⟩
  refine ho O σ H env n _ e s (a.mono _ _ _ _ (fun d n1 ⟨l, e1, e2, q⟩ => ?_) q)
  intro v H1 k1 s1 r1
  subst e1
  cases id r1 with
  | obj n0 h0 s0 =>
    refine ⟨_, _, _, rfl, h0, s0.none e2, ?_⟩
    have e1 := e.kx k1 s1
    refine h O σ H1 env n1 _ e1 s1 (b.mono _ _ _ _ (fun xs n2 q => ?_) q)
    intro vs H2 k2 s2 r2
    exact call_q hm (e1.kx k2 s2) (k1.trans k2) s2 (hgV _ _ _ _ _ _ (r1.kx (k2.mono fun x h => e.gd x (m.dg x h))) r2) q
/-- o.m() -/
def tMeth0 (C : Addr) (mn : Str) (T : FT) (Ta : TD) : TD := fun env n K => Ta env n fun d n1 => ∃ l, d = .obj C l ∧ l.lookup mn = none ∧ T [d] n1 K
end
/-! ### {k: v for k in d} -/
theorem dc_it {J : It} {n : Nat} {G : Hp → Prop} {Y : Nat → Hp → V → Hp → Prop} (w : Walk J n G Y) {g : TG} {tt : TT} {tk tv : TE} {vs : List Nat} {σ : L2.St} {H1 : Hp} {D : Addr} {Qd : Hp → Prop} (Pv : Nat → Hp → Prop) (h0 : Pv 0 (upd H1 D (.dK []))) (hG : ∀ i H, i ≤ n → Pv i H → G H)
    (hs : ∀ i x H H', i < n → Pv i H → Y i H x H' → g x (wipe σ vs) H' fun σ2 H2 => wipe σ2 vs = wipe σ vs ∧ tt σ2 H2 fun b H3 =>
      if b = true then tk σ2 H3 fun y H4 => tv σ2 H4 fun z H5 => ∃ kvs k, y = kV k ∧ H5 D = some (.dK kvs) ∧ kvs.length < sizeLine ∧ Pv (i + 1) (upd H5 D (.dK (putK kvs k z))) else Pv (i + 1) H3) (hd : ∀ H, Pv n H → Qd H) :
    ∃ W : Nat → Nat → Hp → Prop, (∃ m, W 0 m (upd H1 D (.dK []))) ∧ ∀ i m H, W i m H →
      (J.stop i H ∧ Qd H) ∨ (J.go i H ∧ ∃ Nx : Hp → Prop, (∀ H', Nx H' → ∃ m', m' < m ∧ W (i + 1) m' H') ∧ ∀ x H', J.yld i H x H' → g x (wipe σ vs) H' fun σ2 H2 => wipe σ2 vs = wipe σ vs ∧ tt σ2 H2 fun b H3 =>
        if b = true then tk σ2 H3 fun y H4 => tv σ2 H4 fun z H5 => ∃ kvs k, y = kV k ∧ H5 D = some (.dK kvs) ∧ kvs.length < sizeLine ∧ Nx (upd H5 D (.dK (putK kvs k z))) else Nx H3) := by
  refine ⟨fun i m H => m = n - i ∧ i ≤ n ∧ Pv i H, ⟨n, by simp, Nat.zero_le _, h0⟩, ?_⟩
  rintro i m H ⟨em, hi, p⟩
  subst em
  have q := hG i H hi p
  by_cases lt : i < n
  · exact .inr ⟨w.goes i H lt q, Pv (i + 1), fun H' p' => ⟨n - (i + 1), by omega, rfl, lt, p'⟩, fun x H' y => hs i x H H' lt p (w.yields i H x H' lt q y)⟩
  · have e : i = n := by omega
    subst e
    exact .inl ⟨w.stops H q, hd H p⟩
end DL

set_option Elab.async false
set_option linter.all false
set_option maxRecDepth 100000
set_option maxHeartbeats 1000000
/-! DL18: data that can be copied; the copy of a dict, key by key -/
namespace DL
open PySem L2
/-! ### one heap, one tree -/
section
variable {O O2 : Addr → Prop} {H : Hp}
mutual
theorem R.det : ∀ {v : V} {x y : D}, R O H v x → R O2 H v y → okD x = true → okD y = true → x = y
  | _, _, _, .non, h, _, hy => by cases h; rfl
  | _, _, _, .bl b, h, _, hy => by cases h; rfl
  | _, _, _, .int i, h, _, hy => by cases h; rfl
  | _, _, _, .str x, h, _, hy => by cases h; rfl
  | _, _, _, .ptr a, h, hx, _ => by simp [okD] at hx
  | _, _, _, .ty s, h, hx, _ => by simp [okD] at hx
  | _, _, _, .obj _ _ _, h, hx, _ => by simp [okD] at hx
  | _, _, _, .exc _ _ _, h, hx, _ => by simp [okD] at hx
  | _, _, _, .exv _ _ _ _ _, h, hx, _ => by simp [okD] at hx
  | _, _, _, .exn _ _, h, hx, _ => by simp [okD] at hx
  | _, _, _, .lst n e r, h, hx, hy => by
    cases h with
    | ptr => simp [okD] at hy
    | lst n2 e2 r2 =>
      rw [e] at e2
      cases e2
      rw [Rs.det r r2 (by simpa [okD] using hx) (by simpa [okD] using hy)]
    | tup n2 e2 r2 => rw [e] at e2; cases e2
    | dic n2 e2 r2 => rw [e] at e2; cases e2
    | obj => simp [okD] at hy
    | exc => simp [okD] at hy
    | exv => simp [okD] at hy
    | exn => simp [okD] at hy
  | _, _, _, .tup n e r, h, hx, hy => by
    cases h with
    | ptr => simp [okD] at hy
    | tup n2 e2 r2 =>
      rw [e] at e2
      cases e2
      rw [Rs.det r r2 (by simpa [okD] using hx) (by simpa [okD] using hy)]
    | lst n2 e2 r2 => rw [e] at e2; cases e2
    | dic n2 e2 r2 => rw [e] at e2; cases e2
    | obj => simp [okD] at hy
    | exc => simp [okD] at hy
    | exv => simp [okD] at hy
    | exn => simp [okD] at hy
  | _, _, _, .dic n e r, h, hx, hy => by
    cases h with
    | ptr => simp [okD] at hy
    | dic n2 e2 r2 =>
      rw [e] at e2
      cases e2
      rw [Rk.det r r2 (by simpa [okD] using hx) (by simpa [okD] using hy)]
    | tup n2 e2 r2 => rw [e] at e2; cases e2
    | lst n2 e2 r2 => rw [e] at e2; cases e2
    | obj => simp [okD] at hy
    | exc => simp [okD] at hy
    | exv => simp [okD] at hy
    | exn => simp [okD] at hy
theorem Rs.det : ∀ {v : List V} {x y : List D}, Rs O H v x → Rs O2 H v y → okDs x = true → okDs y = true → x = y
  | _, _, _, .nil, h, _, _ => by cases h; rfl
  | _, _, _, .cons a r, h, hx, hy => by
    cases h with
    | cons b s =>
      rw [okDs, Bool.and_eq_true] at hx hy
      rw [R.det a b hx.1 hy.1, Rs.det r s hx.2 hy.2]
theorem Rk.det : ∀ {v : List (Key × V)} {x y : List (Key × D)}, Rk O H v x → Rk O2 H v y → okDk x = true → okDk y = true → x = y
  | _, _, _, .nil, h, _, _ => by cases h; rfl
  | _, _, _, .cons a r, h, hx, hy => by
    cases h with
    | cons b s =>
      rw [okDk, Bool.and_eq_true] at hx hy
      rw [R.det a b hx.1 hy.1, Rk.det r s hx.2 hy.2]
end
/-- nothing below a dict is the dict -/
structure Lk (O : Addr → Prop) (H : Hp) (a : Addr) (l : List (Key × D)) : Prop where
  ex : ∃ kvs, H a = some (.dK kvs) ∧ Rk O H kvs l
  ok : okDk l = true
variable {a : Addr} {l : List (Key × D)}
mutual
theorem R.lock (L : Lk O H a l) : ∀ {v : V} {x : D}, R O H v x → okD x = true → sizeOf x < sizeOf (D.dic l) → R (fun b => O b ∨ b = a) H v x
  | _, _, .non, _, _ => .non
  | _, _, .bl b, _, _ => .bl b
  | _, _, .int i, _, _ => .int i
  | _, _, .str x, _, _ => .str x
  | _, _, .ptr a, hx, _ => by simp [okD] at hx
  | _, _, .ty s, hx, _ => by simp [okD] at hx
  | _, _, .obj _ _ _, hx, _ => by simp [okD] at hx
  | _, _, .exc _ _ _, hx, _ => by simp [okD] at hx
  | _, _, .exv _ _ _ _ _, hx, _ => by simp [okD] at hx
  | _, _, .exn _ _, hx, _ => by simp [okD] at hx
  | _, _, .lst n e r, hx, hz => by
    obtain ⟨kvs, ha, _⟩ := L.ex
    exact .lst (fun z => z.elim n fun z => by rw [z, ha] at e; cases e) e (Rs.lock L r (by simpa [okD] using hx) (by simp only [D.lst.sizeOf_spec] at hz; omega))
  | _, _, .tup n e r, hx, hz => by
    obtain ⟨kvs, ha, _⟩ := L.ex
    exact .tup (fun z => z.elim n fun z => by rw [z, ha] at e; cases e) e (Rs.lock L r (by simpa [okD] using hx) (by simp only [D.tup.sizeOf_spec] at hz; omega))
  | _, _, .dic n e r, hx, hz => by
    obtain ⟨kvs, ha, rk⟩ := L.ex
    refine .dic (fun z => z.elim n fun z => ?_) e (Rk.lock L r (by simpa [okD] using hx) (by simp only [D.dic.sizeOf_spec] at hz ⊢; omega))
    rw [z, ha] at e
    cases e
    rw [Rk.det r rk (by simpa [okD] using hx) L.ok] at hz
    exact Nat.lt_irrefl _ hz
theorem Rs.lock (L : Lk O H a l) : ∀ {v : List V} {x : List D}, Rs O H v x → okDs x = true → sizeOf x < sizeOf (D.dic l) → Rs (fun b => O b ∨ b = a) H v x
  | _, _, .nil, _, _ => .nil
  | _, _, .cons b r, hx, hz => by
    rw [okDs, Bool.and_eq_true] at hx
    simp only [List.cons.sizeOf_spec] at hz
    exact .cons (R.lock L b hx.1 (by omega)) (Rs.lock L r hx.2 (by omega))
theorem Rk.lock (L : Lk O H a l) : ∀ {v : List (Key × V)} {x : List (Key × D)}, Rk O H v x → okDk x = true → sizeOf x < sizeOf (D.dic l) → Rk (fun b => O b ∨ b = a) H v x
  | _, _, .nil, _, _ => .nil
  | _, _, .cons b r, hx, hz => by
    rw [okDk, Bool.and_eq_true] at hx
    simp only [List.cons.sizeOf_spec, Prod.mk.sizeOf_spec] at hz
    exact .cons (R.lock L b hx.1 (by omega)) (Rk.lock L r hx.2 (by omega))
end
end
/-! ### what can be copied -/
inductive Cpy : Nat → D → Prop
  | leaf {k : Nat} {d : D} : flatD d = true → Cpy k d
  | lst {k : Nat} {ds : List D} : ds.length ≤ 1000 → (∀ x ∈ ds, Cpy k x) → Cpy (k + 1) (.lst ds)
  | tup {k : Nat} {ds : List D} : ds.length ≤ 1000 → (∀ x ∈ ds, Cpy k x) → Cpy (k + 1) (.tup ds)
  | dic {k : Nat} {l : List (Key × D)} : l.length ≤ 1000 → (l.map (·.1)).Nodup → (∀ p ∈ l, Cpy k p.2) → Cpy (k + 1) (.dic l)
theorem okDs_of : ∀ {ds : List D}, (∀ x ∈ ds, okD x = true) → okDs ds = true
  | [], _ => rfl
  | x :: r, h => by rw [okDs, h x (List.mem_cons_self ..), okDs_of fun y hy => h y (List.mem_cons_of_mem _ hy)]; rfl
theorem okDk_of : ∀ {l : List (Key × D)}, (∀ p ∈ l, okD p.2 = true) → okDk l = true
  | [], _ => rfl
  | (k, x) :: r, h => by rw [okDk, h (k, x) (List.mem_cons_self ..), okDk_of fun y hy => h y (List.mem_cons_of_mem _ hy)]; rfl
theorem okD_flat {d : D} (h : flatD d = true) : okD d = true := by cases d <;> first | rfl | cases h
theorem Cpy.ok : ∀ {k : Nat} {d : D}, Cpy k d → okD d = true
  | _, _, .leaf h => okD_flat h
  | _, _, .lst _ h => by rw [okD]; exact okDs_of fun x hx => (h x hx).ok
  | _, _, .tup _ h => by rw [okD]; exact okDs_of fun x hx => (h x hx).ok
  | _, _, .dic _ _ h => by rw [okD]; exact okDk_of fun p hp => (h p hp).ok
theorem Cpy.up : ∀ {k j : Nat} {d : D}, Cpy k d → k ≤ j → Cpy j d
  | _, _, _, .leaf h, _ => .leaf h
  | k + 1, 0, _, _, z => by omega
  | k + 1, j + 1, _, .lst a h, z => .lst a fun x hx => (h x hx).up (by omega)
  | k + 1, j + 1, _, .tup a h, z => .tup a fun x hx => (h x hx).up (by omega)
  | k + 1, j + 1, _, .dic a b h, z => .dic a b fun x hx => (h x hx).up (by omega)
theorem flat_ty {d : D} (h : flatD d = true) : ∃ t, tyN d = some t ∧ kitB t "list" = some false ∧ kitB t "tuple" = some false ∧ kitB t "dict" = some false := by
  cases d with
  | non => exact ⟨_, rfl, by decide +kernel, by decide +kernel, by decide +kernel⟩
  | bl b => exact ⟨_, rfl, by decide +kernel, by decide +kernel, by decide +kernel⟩
  | int b => exact ⟨_, rfl, by decide +kernel, by decide +kernel, by decide +kernel⟩
  | str b => exact ⟨_, rfl, by decide +kernel, by decide +kernel, by decide +kernel⟩
  | _ => cases h
theorem Cpy.ty {k : Nat} {d : D} (h : Cpy k d) : ∃ t, tyN d = some t := by
  cases h with
  | leaf h => obtain ⟨t, e, _⟩ := flat_ty h; exact ⟨t, e⟩
  | _ => exact ⟨_, rfl⟩
def TCopied (k : Nat) : CD := fun ds Q => ∃ d, ds = [d] ∧ Cpy k d ∧ Q d
theorem mono_copied {k : Nat} : CMono (TCopied k) := fun ds Q Q' h ⟨d, e, c, q⟩ => ⟨d, e, c, h _ q⟩
theorem valV_at {κ : Type} [DecidableEq κ] : ∀ {kvs : List (κ × V)} {i : Nat} {k : κ} {v : V}, (kvs.map (·.1)).Nodup → kvs[i]? = some (k, v) → valV kvs k = some v
  | [], i, _, _, _, h => by simp at h
  | (k', v') :: r, 0, k, v, _, h => by
    simp only [List.getElem?_cons_zero, Option.some.injEq, Prod.mk.injEq] at h
    rw [valV_pos h.1, h.2]
  | (k', v') :: r, i + 1, k, v, n, h => by
    simp only [List.getElem?_cons_succ] at h
    rw [List.map_cons, List.nodup_cons] at n
    have : k ∈ r.map (·.1) := List.mem_map.mpr ⟨(k, v), List.mem_of_getElem? h, rfl⟩
    rw [valV_neg (fun z => n.1 (by show k' ∈ _; rw [show k' = k from z]; exact this))]
    exact valV_at n.2 h
theorem putK_new {κ : Type} [DecidableEq κ] {kvs : List (κ × V)} {k : κ} {v : V} (h : k ∉ kvs.map (·.1)) : putK kvs k v = kvs ++ [(k, v)] := by
  unfold putK
  have : (kvs.any fun kv => decide (kv.1 = k)) = false := by
    rw [List.any_eq_false]
    intro p hp
    simp only [decide_eq_true_eq]
    exact fun z => h (List.mem_map.mpr ⟨p, hp, z⟩)
  rw [this]
  rfl
theorem Rk.keys {O : Addr → Prop} {H : Hp} : ∀ {kvs : List (Key × V)} {l : List (Key × D)}, Rk O H kvs l → kvs.map (·.1) = l.map (·.1)
  | _, _, .nil => rfl
  | _, _, .cons _ r => by rw [List.map_cons, List.map_cons, r.keys]
theorem Rk.get {O : Addr → Prop} {H : Hp} {k : Key} {v : V} : ∀ {kvs : List (Key × V)} {l : List (Key × D)} {i : Nat}, Rk O H kvs l → kvs[i]? = some (k, v) → ∃ d, l[i]? = some (k, d) ∧ R O H v d
  | _, _, i, .nil, e => by simp at e
  | _, _, 0, .cons h _, e => by
    simp only [List.getElem?_cons_zero, Option.some.injEq, Prod.mk.injEq] at e
    obtain ⟨e1, e2⟩ := e
    subst e1; subst e2
    exact ⟨_, rfl, h⟩
  | _, _, i + 1, .cons _ r, e => by
    simp only [List.getElem?_cons_succ] at e ⊢
    exact r.get e
theorem Rk.append {O : Addr → Prop} {H : Hp} : ∀ {xs ys : List (Key × V)} {ds es : List (Key × D)}, Rk O H xs ds → Rk O H ys es → Rk O H (xs ++ ys) (ds ++ es)
  | _, _, _, _, .nil, s => s
  | _, _, _, _, .cons h r, s => .cons h (r.append s)
theorem size_mem {l : List (Key × D)} {p : Key × D} (h : p ∈ l) : sizeOf p.2 < sizeOf (D.dic l) := by
  have h1 := List.sizeOf_lt_of_mem h
  have h2 : sizeOf p.2 < sizeOf p := by cases p; simp only [Prod.mk.sizeOf_spec]; omega
  simp only [D.dic.sizeOf_spec]
  omega
/-- {k: copied(d[k]) for k in d} -/
theorem dc_copy {O : Addr → Prop} {σ : L2.St} {H : Hp} {env : Sls} {n : Nat} {Q : VK} {i j k : Nat} {l : List (Key × D)} (e : EE noMd O σ H env) (he : env[i]? = some (.val (.dic l))) (ij : j ≠ i) (hj : j < env.length) (hl : l.length ≤ 1000) (nd : (l.map (·.1)).Nodup) (hc : ∀ p ∈ l, Cpy k p.2)
    (q : Out noMd O H Q (.dic l) n) : tLockE (tDc (iKeys (tVar i)) (gName j) tYes (tVar j) (tCall (spP (TCopied k)) [] E0 (tCons (tDGet (tVar i) (tVar j)) tNil)) [j]) σ H Q := by
  obtain ⟨v, hv, rv⟩ := e.val i _ he
  cases rv with
  | dic na ha rk =>
    rename_i a kvs
    have okl : okDk l = true := okDk_of fun p hp => (hc p hp).ok
    have lk : Lk O H a l := ⟨⟨kvs, ha, rk⟩, okl⟩
    have hkl : kvs.length = l.length := by have := congrArg List.length rk.keys; simpa using this
    have hjs : j < σ.length := by rw [e.len]; exact hj
    refine ⟨a, .dK kvs, ha, trivial, fun od => ?_⟩
    refine ⟨.ref a, hv, a, od, rfl, .inl ⟨kvs, upd_same, fun D nD => ?_⟩⟩
    have Da : D ≠ a := fun z => by rw [z, upd_same] at nD; cases nD
    have nDH : H D = none := by rw [upd_ne Da] at nD; exact nD
    have nOD : ¬ O D := e.new nDH
    let O' : Addr → Prop := fun b => O b ∨ b = a ∨ b = D
    let Pv : Nat → Hp → Prop := fun m H' => ∃ acc, H' D = some (.dK acc) ∧ Rk O' H' acc (l.take m) ∧ ∀ b o, b ≠ D → (upd H a (.frz od (.dK kvs))) b = some o → H' b = some o
    refine dc_it (walk_keys (d := a) (o := od) (kvs := kvs)) (g := gName j) (tt := tYes) (tk := tVar j) (tv := tCall (spP (TCopied k)) [] E0 (tCons (tDGet (tVar i) (tVar j)) tNil)) (vs := [j]) (σ := σ) (Qd := fun H' => H' a = some (HO.frz od (HO.dK kvs)) ∧ Q (.ref D) (upd H' a (HO.dK kvs))) Pv ⟨[], upd_same, by rw [List.take_zero]; exact .nil, fun b o nb h => by rw [upd_ne nb]; exact h⟩ (fun m H' _ ⟨_, _, _, kp⟩ => kp a _ Da.symm upd_same) (fun m x H1 H2 hm ⟨acc, hD, ra, kp⟩ y => ?_) fun H' ⟨acc, hD, ra, kp⟩ => ?_
    · obtain ⟨e1, key, v, hk, ex⟩ := y
      subst e1; subst ex
      obtain ⟨d, hd, rd⟩ := rk.get hk
      have hmem : (key, d) ∈ l := List.mem_of_getElem? hd
      have wi : (wipe σ [j])[i]? = some (some (.ref a)) := by
        rw [wipe_get σ [j] i (List.getElem?_eq_some_iff.mp hv).1, if_neg (by simpa using ij.symm)]
        exact hv
      have wj : j < (wipe σ [j]).length := by rw [wipe_length]; exact hjs
      refine ⟨wipe_sets σ [j] [(j, kV key)] (fun b hb => hb), (iteT (B := Pv (m + 1) H2) ?_ : (if true = true then _ else Pv (m + 1) H2))⟩
      refine ⟨kV key, List.getElem?_set_self wj, .ref a, by rw [List.getElem?_set_ne ij]; exact wi, kV key, List.getElem?_set_self wj, a, v, rfl, .inl ⟨kvs, key, .inr ⟨od, kp a _ Da.symm upd_same⟩, rfl, (valV_at (by rw [rk.keys]; exact nd) hk).symm⟩, ?_⟩
      have rd2 : R O' H2 v d := (R.lock lk rd (hc _ hmem).ok (size_mem hmem)).keep fun b o n h => by
        have nb : b ≠ a := fun z => n (.inr z)
        have nbD : b ≠ D := ne_of_none h nDH
        exact ⟨kp b o nbD (by rw [upd_ne nb]; exact h), fun z => z.elim (fun z => n (.inl z)) fun z => z.elim nb nbD⟩
      refine ⟨[d], O', .cons rd2 .nil, fun b hb => ?_, d, rfl, hc _ hmem, fun v' H3 sm r3 => ⟨acc, key, rfl, sm _ _ hD, ?_, ?_⟩⟩
      · rcases hb with hb | hb | hb
        · cases z : H b with
          | none => exact absurd z (e.old b hb)
          | some o =>
            by_cases nb : b = a
            · rw [nb, kp a _ Da.symm upd_same]; exact fun z => nomatch z
            · rw [kp b o (ne_of_none z nDH) (by rw [upd_ne nb]; exact z)]; exact fun z => nomatch z
        · rw [hb, kp a _ Da.symm upd_same]; exact fun z => nomatch z
        · rw [hb, hD]; exact fun z => nomatch z
      · have := congrArg List.length ra.keys
        simp only [List.length_map, List.length_take] at this
        exact Nat.lt_of_le_of_lt (show acc.length ≤ 1000 by omega) (by decide)
      · have nk : key ∉ acc.map (·.1) := by
          rw [ra.keys]
          intro z
          obtain ⟨p, hp, ep⟩ := List.mem_map.mp z
          obtain ⟨t, ht, et⟩ := List.getElem_of_mem hp
          have lt : t < m ∧ t < l.length := by rw [List.length_take] at ht; omega
          rw [List.getElem_take] at et
          have lm : m < l.length := (List.getElem?_eq_some_iff.mp hd).1
          have h1 : (l.map (·.1))[t]'(by rw [List.length_map]; exact lt.2) = key := by rw [List.getElem_map, et, ep]
          have h2 : (l.map (·.1))[m]'(by rw [List.length_map]; exact lm) = key := by rw [List.getElem_map, (List.getElem?_eq_some_iff.mp hd).2]
          exact (List.pairwise_iff_getElem.mp nd t m (by rw [List.length_map]; exact lt.2) (by rw [List.length_map]; exact lm) lt.1) (h1.trans h2.symm)
        rw [putK_new nk]
        refine ⟨_, upd_same, ?_, fun b o nb h => by rw [upd_ne nb]; exact sm _ _ (kp b o nb h)⟩
        rw [List.take_add_one, hd]
        have ka : ∀ b o, ¬ O' b → H2 b = some o → (upd H3 D (.dK (acc ++ [(key, v')]))) b = some o ∧ ¬ O' b := fun b o n h => ⟨by rw [upd_ne (fun z => n (.inr (.inr z)))]; exact sm b o h, n⟩
        have kb : ∀ b o, ¬ O' b → H3 b = some o → (upd H3 D (.dK (acc ++ [(key, v')]))) b = some o ∧ ¬ O' b := fun b o n h => ⟨by rw [upd_ne (fun z => n (.inr (.inr z)))]; exact h, n⟩
        exact (ra.keep ka).append (.cons (r3.keep kb) .nil)
    · refine ⟨kp a _ Da.symm upd_same, ?_⟩
      rw [hkl, List.take_length] at ra
      refine q _ _ (fun b o _ h => ?_) trivial (.dic nOD (by rw [upd_ne Da]; exact hD) (ra.keep fun b o n h => ⟨by rw [upd_ne (fun z => n (.inr (.inl z)))]; exact h, fun z => n (.inl z)⟩))
      by_cases nb : b = a
      · rw [nb, upd_same, ← ha, ← nb, h]
      · rw [upd_ne nb]
        exact kp b o (ne_of_none h nDH) (by rw [upd_ne nb]; exact h)
theorem kb0 {K : PySem.W.Frag} {fd : FuncData} {ps : List Str} (hb : Binds K fd ps []) : KBinds K fd ps [] (fun us _ => us) (fun vs _ => vs) := by
  refine ⟨fun s us ws X hl => ?_, fun r _ => r⟩
  have h := hb s us X (by rw [List.append_nil]; exact hl)
  rw [List.append_nil] at h
  exact h
def tCpyD (i j k : Nat) : TD := fun env n Q => ∃ l, env[i]? = some (.val (.dic l)) ∧ j < env.length ∧ l.length ≤ 1000 ∧ (l.map (·.1)).Nodup ∧ (∀ p ∈ l, Cpy k p.2) ∧ Q (.dic l) n
theorem v_cpyD {X : Cx} {e : Expr} {i j k : Nat} (ij : j ≠ i) (p : PE X e (tLockE (tDc (iKeys (tVar i)) (gName j) tYes (tVar j) (tCall (spP (TCopied k)) [] E0 (tCons (tDGet (tVar i) (tVar j)) tNil)) [j]))) : EV X noMd e (tCpyD i j k) :=
  ⟨fun env n K K' h ⟨l, a, b, c, d, e, q⟩ => ⟨l, a, b, c, d, e, h _ _ q⟩, _, p, fun O σ H env n Q e s ⟨l, a, b, c, d, f, q⟩ => dc_copy e a ij b c d f q⟩
end DL

set_option Elab.async false
set_option linter.all false
set_option maxRecDepth 100000
set_option maxHeartbeats 1000000
/-! DL19: a try whose except clause is told for one class -/
namespace DL
open PySem L2
theorem room200 {k : Nat} {A : Around} (hr : Room k A) : A.units + 200 < cLine := by have := hr.un; omega
section
variable {X : Cx} {m : Md}
theorem pss_none {s : List Stmt} : PSs X s (fun _ _ _ => False) := ⟨fun _ _ _ _ _ _ h => h.elim⟩
theorem ss_never {s : List Stmt} : SsV X m s (fun _ _ _ => False) := ⟨_, pss_none, fun _ _ _ _ _ _ _ _ _ _ h => h.elim⟩
theorem s_try1 {x nm : Str} {c : Value} {C0 : Addr} {i : Nat} {body suite : List Stmt} {b₀ : Stmt} {np pos pos' : Pos} {Tb : Er → TDS} {Ts : Addr → Addr → TDS}
    (hs : X.stack = X.env :: X.outer) (hf : X.env.frame = some X.env.locals) (hN : X.N.Nodup) (hi : X.N[i]? = some nm) (hln : X.env.kindOf nm = some .local) (hc : Names X x c) (tk : Takes X m.W)
    (hb : ∀ (W : WX) (er : Er) (pn : List (Addr × Obj)) (xe : Value → Shared → Prop), Takes (X.tr pn xe) W → PassesOwn (model X.prog X.w) X.A X.env xe → SsV (X.tr pn xe) (m.x W er) body (Tb er))
    (hsu : ∀ (a d : Addr) (oe : Obj) (pn : List (Addr × Obj)), Zc (.ref C0) (some d) oe → (∃ vs, oe.data = .fields vs) → SsV (X.suite a ((a, oe) :: pn)) m.nox (b₀ :: suite) (Ts a d)) :
    SV X m (.Try body [.ExceptHandler (some (.Name x np)) (some nm) (b₀ :: suite) pos'] [] [] pos) (sTry X.K m i c Tb fun a d C Z env n => C = C0 ∧ Ts a d Z env n) := by
  refine s_try hs hf hN hi hln hc tk hb fun a d C oe pn hz hv => ?_
  by_cases e : C = C0
  · subst e
    obtain ⟨t, p, h⟩ := (hsu a d oe pn hz hv).ex
    exact ⟨t, p, fun F σ H env n Z E e s z q => h F σ H env n Z E e s z q.2⟩
  · exact ⟨_, pss_none, fun F σ H env n Z E _ s z q => e q.1⟩
theorem b_chain {op op' : CmpOp} {r r' : R2} {rd rd' : RD} {ea eb ec : Expr} {Ta Tb Tc : TD} {pos : Pos} (h : OpR X (compareOp op) r) (hd : OpD r rd) (h' : OpR X (compareOp op') r') (hd' : OpD r' rd') (a : EV X m ea Ta) (b : EV X m eb Tb) (c : EV X m ec Tc)
    (hm : lastMarks [op, op'] [eb, ec] = false := by with_unfolding_all rfl) : BV X m (.Compare ea [op, op'] [eb, ec] pos) (bVal (tChainD rd rd' Ta Tb Tc)) := by
  obtain ⟨ta, tb, pa, pb, hz⟩ := two a b
  obtain ⟨tc, pc, hy⟩ := c.ex
  have mono := (v_chain (pos := pos) h hd h' hd' a b c hm).mono
  refine ⟨fun env n K K' hk q => mono env n _ _ (fun d n1 ⟨k, e, z⟩ => ⟨k, e, hk _ _ z⟩) q, _, pt_chain h h' pa pb pc hm, fun O σ H env n Q0 e s q0 => ?_⟩
  let Q : VK := fun v H1 => ∃ k, v = .bl k ∧ Q0 k H1
  have q : tChainD rd rd' Ta Tb Tc env n (Out m O H Q) := mono _ _ _ _ (fun d n1 ⟨k, ed, z⟩ v H1 k1 s1 r1 => by subst ed; cases r1; exact ⟨k, rfl, z H1 k1 s1⟩) q0
  show tChain r r' ta tb tc σ H Q
  refine hz O σ H env n _ _ e s q fun v w x y H2 n2 k2 e2 s2 r1 r2 q => hd.run m O H2 n2 v w x y _ e2.gd e2.old s2 r1 r2 (hd.mono _ _ _ _ (fun d ⟨k, ed, z⟩ => ?_) q)
  intro v3 H3 k3 s3 r3
  subst ed
  cases r3
  refine ⟨k, rfl, ?_⟩
  have e3 := e2.kx k3 s3
  cases k with
  | false => exact iteF ((show Out m O H Q (.bl false) n2 from z) _ H3 (k2.trans k3) s3 (.bl _))
  | true =>
    refine iteT (hy O σ H3 env n2 _ e3 s3 (c.mono _ _ _ _ (fun w' n3 z => ?_) (show Tc env n2 _ from z)))
    intro u H4 k4 s4 r4
    have e4 := e3.kx k4 s4
    have r2' : R O H4 w y := (r2.kx (k3.mono fun x h => e.gd x (m.dg x h))).kx (k4.mono fun x h => e.gd x (m.dg x h))
    exact hd'.run m O H4 n3 w u y w' Q e4.gd e4.old s4 r2' r4 (hd'.mono _ _ _ _ (fun d o => out_trans ((k2.trans k3).trans k4) o) z)
def tNegD (T : TD) : TD := fun env n K => T env n fun d n1 => ∃ i, d = .int i ∧ K (.int (-i)) n1
theorem v_neg {e : Expr} {T : TD} {pos : Pos} (a : EV X m e T) : EV X m (.UnaryOp .USub e pos) (tNegD T) := by
  obtain ⟨t, p, h⟩ := a.ex
  refine ⟨fun env n K K' hk q => a.mono _ _ _ _ (fun d n1 ⟨i, e, q⟩ => ⟨i, e, hk _ _ q⟩) q, _, pe_un un_neg p, fun O σ H env n Q e s q => ?_⟩
  refine h O σ H env n _ e s (a.mono _ _ _ _ (fun d n1 ⟨i, ed, q⟩ => ?_) q)
  intro v H1 k1 s1 r1
  subst ed
  cases r1
  exact ⟨i, rfl, q _ H1 k1 s1 (.int _)⟩
end
end DL

set_option Elab.async false
set_option linter.all false
set_option maxRecDepth 100000
set_option maxHeartbeats 1000000
/-! DL20: how long what repr tells is; a check of what can be copied -/
namespace DL
open PySem L2
open PySem.PyData in
theorem piled_le' {B : Nat} : ∀ {ts : List Str}, (∀ t ∈ ts, t.length ≤ B) → piled ts ≤ ts.length * (B + 2)
  | [], _ => by simp [piled]
  | t :: ts, h => by
    rw [piled_cons, List.length_cons, Nat.succ_mul]
    have := h t (List.mem_cons_self ..)
    have := piled_le' (ts := ts) fun u hu => h u (List.mem_cons_of_mem _ hu)
    omega
theorem from_le : ∀ (ts : List Str) (k : Nat) (acc : Str), (textFrom k acc ts).length ≤ acc.length + piled ts
  | [], k, acc => by rw [piled_nil]; exact Nat.le_refl _
  | t :: ts, k, acc => by
    have h := from_le ts (k + 1) (acc ++ (if k > 0 then ", " else "" : String) ++ t)
    have e : (acc ++ (if k > 0 then ", " else "" : String) ++ t).length ≤ acc.length + 2 + t.length := by
      rw [strLen_append, strLen_append]
      split
      · exact Nat.le_refl _
      · show acc.length + 0 + t.length ≤ _; omega
    rw [piled_cons]
    show (textFrom (k + 1) _ ts).length ≤ _
    omega
theorem list_le (ts : List Str) : (listText ts).length ≤ piled ts + 2 := by
  unfold listText
  rw [strLen_append]
  have := from_le ts 0 "["
  have e1 : (("[" : String) : Str).length = 1 := rfl
  have e2 : (("]" : String) : Str).length = 1 := rfl
  omega
theorem join_le (ts : List Str) : (Str.join ", " ts).length ≤ piled ts := by
  by_cases h : ts = []
  · subst h; exact Nat.le_refl _
  · have := join_length_add ts h; omega
theorem tup_le (ts : List Str) : (tupleText ts).length ≤ piled ts + 3 := by
  unfold tupleText
  rw [strLen_append, strLen_append]
  have e1 : ((("(" : String) : Str)).length = 1 := rfl
  have e3 : (((if ts.length == 1 then ",)" else ")" : String) : Str)).length ≤ 2 := by split <;> decide
  have := join_le ts
  omega
theorem dict_le (ts : List Str) : (dictText ts).length ≤ piled ts + 2 := by
  unfold dictText
  rw [strLen_append, strLen_append]
  have e1 : ((("{" : String) : Str)).length = 1 := rfl
  have e3 : ((("}" : String) : Str)).length = 1 := rfl
  have := join_le ts
  omega
/-! signs that a text can have -/
def OkZ (z : Str) : Prop := ∀ c ∈ z.cps.toList, c < 1114112
theorem app_cps (a b : Str) : (a ++ b).cps.toList = a.cps.toList ++ b.cps.toList := by
  show (a.cps ++ b.cps).toList = _
  exact Array.toList_append
theorem OkZ.app {a b : Str} (h : OkZ a) (g : OkZ b) : OkZ (a ++ b) := fun c hc => by
  rw [app_cps] at hc
  exact (List.mem_append.mp hc).elim (h c) (g c)
theorem okz_of {z : Str} (h : z.cps.toList.all (fun c => decide (c < 1114112)) = true) : OkZ z := fun c hc => of_decide_eq_true (List.all_eq_true.mp h c hc)
theorem from_ok : ∀ (ts : List Str) (k : Nat) (acc : Str), OkZ acc → (∀ t ∈ ts, OkZ t) → OkZ (textFrom k acc ts)
  | [], k, acc, h, _ => h
  | t :: ts, k, acc, h, g => by
    refine from_ok ts (k + 1) _ ((h.app ?_).app (g t (List.mem_cons_self ..))) fun u hu => g u (List.mem_cons_of_mem _ hu)
    split <;> exact okz_of (by decide +kernel)
theorem list_ok {ts : List Str} (h : ∀ t ∈ ts, OkZ t) : OkZ (listText ts) := (from_ok ts 0 _ (okz_of (by decide +kernel)) h).app (okz_of (by decide +kernel))
theorem join_ok : ∀ {ts : List Str}, (∀ t ∈ ts, OkZ t) → OkZ (Str.join ", " ts)
  | [], _ => okz_of (by decide +kernel)
  | [x], h => h x (List.mem_cons_self ..)
  | x :: y :: r, h => by
    show OkZ (x ++ ", " ++ Str.join ", " (y :: r))
    exact ((h x (List.mem_cons_self ..)).app (okz_of (by decide +kernel))).app (join_ok fun u hu => h u (List.mem_cons_of_mem _ hu))
theorem tup_ok {ts : List Str} (h : ∀ t ∈ ts, OkZ t) : OkZ (tupleText ts) := by
  refine ((okz_of (z := ("(" : String)) (by decide +kernel)).app (join_ok h)).app ?_
  split <;> exact okz_of (by decide +kernel)
theorem dict_ok {ts : List Str} (h : ∀ t ∈ ts, OkZ t) : OkZ (dictText ts) := ((okz_of (z := ("{" : String)) (by decide +kernel)).app (join_ok h)).app (okz_of (by decide +kernel))
theorem shownAll_map : ∀ xs : List PyData, PyData.shownAll xs = xs.map PyData.shown
  | [] => rfl
  | x :: r => by rw [PyData.shownAll, shownAll_map r]; rfl
theorem showAll_of : ∀ {xs : List PyData}, (∀ x ∈ xs, x.showable = true) → PyData.showableAll xs = true
  | [], _ => rfl
  | x :: r, h => by rw [PyData.showableAll, h x (List.mem_cons_self ..), showAll_of fun y hy => h y (List.mem_cons_of_mem _ hy)]; rfl
theorem depthAll_le {k : Nat} : ∀ {xs : List PyData}, (∀ x ∈ xs, x.depth ≤ k) → PyData.depthAll xs ≤ k
  | [], _ => Nat.zero_le _
  | x :: r, h => by rw [PyData.depthAll]; exact Nat.max_le.mpr ⟨h x (List.mem_cons_self ..), depthAll_le fun y hy => h y (List.mem_cons_of_mem _ hy)⟩
/-- what is told of x is short -/
structure Tl (k B : Nat) (x : PyData) : Prop where
  sh : x.showable = true
  dp : x.depth ≤ k
  ln : x.shown.length ≤ B
  ok : OkZ x.shown
theorem tl_mk {k B : Nat} {x : PyData} (a : x.showable = true) (b : x.depth ≤ k) (c : x.shown.length ≤ B ∧ OkZ x.shown) : Tl k B x := ⟨a, b, c.1, c.2⟩
theorem Tl.list {k B : Nat} {xs : List PyData} (h : ∀ x ∈ xs, Tl k B x) (hl : xs.length ≤ 3) : Tl (k + 1) (3 * (B + 2) + 3) (.list xs) := by
  refine tl_mk (by rw [PyData.showable]; exact showAll_of fun x hx => (h x hx).sh) (by rw [PyData.depth]; exact Nat.succ_le_succ (depthAll_le fun x hx => (h x hx).dp)) ?_
  rw [PyData.shown, shownAll_map]
  refine ⟨?_, list_ok fun t ht => by
    obtain ⟨x, hx, e⟩ := List.mem_map.mp ht
    rw [← e]; exact (h x hx).ok⟩
  have h1 := list_le (xs.map PyData.shown)
  have h2 := piled_le' (ts := xs.map PyData.shown) (B := B) fun t ht => by
    obtain ⟨x, hx, e⟩ := List.mem_map.mp ht
    rw [← e]; exact (h x hx).ln
  rw [List.length_map] at h2
  have h3 : xs.length * (B + 2) ≤ 3 * (B + 2) := Nat.mul_le_mul_right _ hl
  omega
theorem Tl.tuple {k B : Nat} {xs : List PyData} (h : ∀ x ∈ xs, Tl k B x) (hl : xs.length ≤ 3) : Tl (k + 1) (3 * (B + 2) + 3) (.tuple xs) := by
  refine tl_mk (by rw [PyData.showable]; exact showAll_of fun x hx => (h x hx).sh) (by rw [PyData.depth]; exact Nat.succ_le_succ (depthAll_le fun x hx => (h x hx).dp)) ?_
  rw [PyData.shown, shownAll_map]
  refine ⟨?_, tup_ok fun t ht => by
    obtain ⟨x, hx, e⟩ := List.mem_map.mp ht
    rw [← e]; exact (h x hx).ok⟩
  have h1 := tup_le (xs.map PyData.shown)
  have h2 := piled_le' (ts := xs.map PyData.shown) (B := B) fun t ht => by
    obtain ⟨x, hx, e⟩ := List.mem_map.mp ht
    rw [← e]; exact (h x hx).ln
  rw [List.length_map] at h2
  have h3 : xs.length * (B + 2) ≤ 3 * (B + 2) := Nat.mul_le_mul_right _ hl
  omega
theorem Tl.dict {k B : Nat} {x y : PyData} (hx : Tl k B x) (hy : Tl k B y) : Tl (k + 1) (B + B + 6) (.dict [(x, y)]) := by
  refine tl_mk (by simp only [PyData.showable, PyData.showableKv, hx.sh, hy.sh, Bool.and_self]) ?_ ?_
  · simp only [PyData.depth, PyData.depthKv]
    have := hx.dp
    have := hy.dp
    omega
  · simp only [PyData.shown, PyData.shownKv]
    refine ⟨?_, dict_ok fun t ht => by rw [List.mem_singleton.mp ht]; exact (hx.ok.app (okz_of (by decide +kernel))).app hy.ok⟩
    have h1 := dict_le [x.shown ++ ": " ++ y.shown]
    rw [piled_cons, piled_nil, strLen_append, strLen_append] at h1
    have e : (((": " : String) : Str)).length = 2 := rfl
    have := hx.ln
    have := hy.ln
    omega
theorem Tl.up {k j B C : Nat} {x : PyData} (h : Tl k B x) (h1 : k ≤ j) (h2 : B ≤ C) : Tl j C x := ⟨h.sh, Nat.le_trans h.dp h1, Nat.le_trans h.ln h2, h.ok⟩
def tlB (k B : Nat) (x : PyData) : Bool := x.showable && decide (x.depth ≤ k) && decide (x.shown.length ≤ B) && x.shown.cps.toList.all (fun c => decide (c < 1114112))
theorem tl_of {k B : Nat} {x : PyData} (h : tlB k B x = true) : Tl k B x := by
  obtain ⟨h0, h5⟩ := Bool.and_eq_true_iff.mp h
  obtain ⟨h1, h2⟩ := Bool.and_eq_true_iff.mp h0
  obtain ⟨h3, h4⟩ := Bool.and_eq_true_iff.mp h1
  exact ⟨h3, of_decide_eq_true h4, of_decide_eq_true h2, okz_of h5⟩
def cpyB : Nat → D → Bool
  | 0, d => flatD d
  | k + 1, d => flatD d || match d with
    | .lst ds => decide (ds.length ≤ 1000) && ds.all (cpyB k)
    | .tup ds => decide (ds.length ≤ 1000) && ds.all (cpyB k)
    | .dic l => decide (l.length ≤ 1000) && decide (l.map (·.1)).Nodup && l.all fun p => cpyB k p.2
    | _ => false
theorem cpy_of : ∀ {k : Nat} {d : D}, cpyB k d = true → Cpy k d
  | 0, d, h => .leaf h
  | k + 1, d, h => by
    unfold cpyB at h
    rcases Bool.or_eq_true_iff.mp h with h | h
    · exact .leaf h
    · cases d with
      | lst ds =>
        obtain ⟨h1, h2⟩ := Bool.and_eq_true_iff.mp h
        exact .lst (of_decide_eq_true h1) fun x hx => cpy_of (List.all_eq_true.mp h2 x hx)
      | tup ds =>
        obtain ⟨h1, h2⟩ := Bool.and_eq_true_iff.mp h
        exact .tup (of_decide_eq_true h1) fun x hx => cpy_of (List.all_eq_true.mp h2 x hx)
      | dic l =>
        obtain ⟨h0, h2⟩ := Bool.and_eq_true_iff.mp h
        obtain ⟨h1, h3⟩ := Bool.and_eq_true_iff.mp h0
        exact .dic (of_decide_eq_true h1) (of_decide_eq_true h3) fun x hx => cpy_of (List.all_eq_true.mp h2 x hx)
      | _ => cases h
end DL

set_option Elab.async false
set_option linter.all false
set_option maxRecDepth 100000
set_option maxHeartbeats 1000000
/-! DL21: lists or tuples alike; making that may raise; promises put together -/
namespace DL
open PySem L2
section
variable {P : Program} {w : World} {K : PySem.W.Frag} {mg : Str → Option Value} {base : Heap}
theorem FnOk.or {CX : CXT} {k : Nat} {f : Addr} {fd : FuncData} {ps : List Str} {sp sp' : Sp} (F : FnOk P w K mg base CX k f fd ps sp) (G : FnOk P w K mg base CX k f fd ps sp') : FnOk P w K mg base CX k f fd ps (fun vs H Q E => sp vs H Q E ∨ sp' vs H Q E) :=
  ⟨fun vs H Q E h => h.elim (F.len vs H Q E) (G.len vs H Q E), fun A outer s H args us vs Q E hr he hb r h => h.elim (F.run A outer s H args us vs Q E hr he hb r) (G.run A outer s H args us vs Q E hr he hb r)⟩
/-- a promise without errors serves where errors may be raised -/
theorem FnOk.upX {k : Nat} {f : Addr} {fd : FuncData} {ps : List Str} {sp : Sp} (F : FnOk P w K mg base CX0 k f fd ps sp) (h : ∀ vs H Q E E', sp vs H Q E → sp vs H Q E') : FnOk P w K mg base (L2.CX P w) k f fd ps sp := by
  refine ⟨F.len, fun A outer s H args us vs Q E hr he hb r q => ?_⟩
  refine codeAny_mono (F.run A outer s H args us vs Q (fun _ _ _ => False) hr he hb r (h _ _ _ _ _ q)) fun x s' hq => ?_
  cases x with
  | error e => exact hq.elim
  | ok fl => cases fl <;> exact hq
theorem FnOk.more {CX : CXT} {k j : Nat} {f : Addr} {fd : FuncData} {ps : List Str} {sp : Sp} (F : FnOk P w K mg base CX k f fd ps sp) (h : k ≤ j) : FnOk P w K mg base CX j f fd ps sp :=
  ⟨F.len, fun A outer s H args us vs Q E hr => F.run A outer s H args us vs Q E (hr.mono h)⟩
theorem spP_or {T T' : CD} : ∀ vs H Q E, spP (fun ds Q => T ds Q ∨ T' ds Q) vs H Q E → spP T vs H Q E ∨ spP T' vs H Q E := fun vs H Q E ⟨ds, O, r, old, t⟩ => t.elim (fun t => .inl ⟨ds, O, r, old, t⟩) fun t => .inr ⟨ds, O, r, old, t⟩
end
/-! ### walked: a list or a tuple -/
theorem pi_or {X : Cx} {tg e : Expr} {a b : TI} (h : PI X tg e a) (g : PI X tg e b) : PI X tg e (fun σ H R => a σ H R ∨ b σ H R) := ⟨fun pins s σ H R I q => q.elim (h.run pins s σ H R I) (g.run pins s σ H R I)⟩
section
variable {X : Cx} {m : Md}
def iSeqN (i : Nat) : TDi := fun env n K => ∃ l, (env[i]? = some (.val (.lst l)) ∨ env[i]? = some (.val (.tup l))) ∧ K l n
theorem i_seqN (i : Nat) {tg : Expr} {x : Str} {pos : Pos} (hN : X.N[i]? = some x := by rfl) (hv : Vis X.env.scope x := by first | exact Or.inl rfl | exact Or.inr (Or.inl rfl) | exact Or.inr (Or.inr rfl)) (hd : (x == ("__debug__" : Str)) = false := by decide)
    (hcd : (x == ("__classdict__" : Str)) = false := by decide) : IV X m tg (.Name x pos) (iSeqN i) := by
  refine ⟨fun env n K K' h ⟨l, e, q⟩ => ⟨l, e, h _ _ q⟩, _, pi_or (pi_list (pe_var hN hv hd hcd)) (pi_tup (pe_var hN hv hd hcd)), fun O σ H env n Q e s ⟨l, he, q⟩ => ?_⟩
  rcases he with he | he
  · obtain ⟨v, h1, h2⟩ := e.val i _ he
    cases h2 with
    | lst na ha ra => exact .inl ⟨_, h1, _, rfl, ⟨_, .inl (.inl ha)⟩, q _ H KX.refl s (it_list na ha ra)⟩
  · obtain ⟨v, h1, h2⟩ := e.val i _ he
    cases h2 with
    | tup na ha ra => exact .inr ⟨_, h1, _, rfl, ⟨_, .inl (.inl ha)⟩, q _ H KX.refl s (it_tup na ha ra)⟩
theorem walk_zipT {K : PySem.W.Frag} {a b : Addr} {xs ys : List V} : Walk (RZ.ItzT K a b) (min xs.length ys.length) (fun H => SqT K H a xs ∧ SqT K H b ys) (YPair (fun i => xs[i]?) (fun i => ys[i]?)) := by
  refine ⟨fun i H lt q => ?_, fun H q => ⟨xs, ys, q.1, q.2, by omega⟩, fun i H v H' lt q y => ?_⟩
  · exact ⟨xs, ys, xs[i]'(by omega), ys[i]'(by omega), q.1, q.2, List.getElem?_eq_getElem _, List.getElem?_eq_getElem _⟩
  · obtain ⟨T, x, z, e1, e2, e3, e4, e5⟩ := y
    exact ⟨T, x, z, e1, e2, e3, e4 xs q.1, e5 ys q.2⟩
theorem it_zipT {K : PySem.W.Frag} {O : Addr → Prop} {H1 : Hp} {a b : Addr} {xs ys : List V} {ds es : List D} (na : ¬ O a) (ha : H1 a = some (.tup xs)) (nb : ¬ O b) (hb : H1 b = some (.tup ys)) (r : Rs O H1 xs ds) (s : Rs O H1 ys es) : ItOk O H1 (RZ.ItzT K a b) (zipD ds es) := by
  have el : (zipD ds es).length = min xs.length ys.length := by unfold zipD; rw [List.length_map, List.length_zip, r.length, s.length]
  refine ⟨fun H => SqT K H a xs ∧ SqT K H b ys, YPair (fun i => xs[i]?) (fun i => ys[i]?), by rw [el]; exact walk_zipT, fun H2 k => ⟨.inl (.inl (k _ _ na ha)), .inl (.inl (k _ _ nb hb))⟩, fun i H2 x H3 hi k y => ?_⟩
  have hi' : i < min ds.length es.length := by rw [el, r.length, s.length] at hi; exact hi
  obtain ⟨v, d, h1, h2, h3⟩ := rs_lt r (show i < ds.length by omega)
  obtain ⟨w, e, g1, g2, g3⟩ := rs_lt s (show i < es.length by omega)
  obtain ⟨t, x1, x2, e1, nt, e2, f1, f2⟩ := y
  replace f1 : xs[i]? = some x1 := f1
  replace f2 : ys[i]? = some x2 := f2
  rw [h1] at f1
  rw [g1] at f2
  cases f1; cases f2
  subst e1; subst e2
  refine ⟨.tup [d, e], ?_, new_same nt, fun O' old q => pair_ok nt old (r_move h3 k q) (r_move g3 k q)⟩
  unfold zipD
  rw [List.getElem?_map, show (ds.zip es)[i]? = some (d, e) from List.getElem?_zip_eq_some.mpr ⟨h2, g2⟩]
  rfl
def iZipAD (Ts : TDs) : TDi := fun env n K => Ts env n fun xs n1 => ∃ l k, (xs = [.lst l, .lst k] ∨ xs = [.tup l, .tup k]) ∧ K (zipD l k) n1
theorem i_zipA {e e2 : Expr} {Ts : TDs} {p pos tpos : Pos} {elts : List Expr} {kk : Nat} (ha : AV X m [e, e2] Ts) (hg : Gl X "zip") (hm : X.mg "zip" = none) (hs : starEach [e, e2] X.env = (false, eval e X.env) :: starEach [e2] X.env := by rfl) (hpl : (backTo pos (starEach [e2] X.env)).any (·.1) = false := by rfl) : IV X m (.Tuple elts kk tpos) (.Call (.Name "zip" p) [e, e2] [] pos) (iZipAD Ts) := by
  obtain ⟨t, pa, h⟩ := ha.ex
  refine ⟨fun env n K K' hk q => ha.mono _ _ _ _ (fun d n1 ⟨l, k, e, q⟩ => ⟨l, k, e, hk _ _ q⟩) q, _, RZ.pi_zipA hg hm pa hs hpl, fun O σ H env n Q e s q => ?_⟩
  refine h O σ H env n _ e s (ha.mono _ _ _ _ (fun xs n1 ⟨l, k, ed, q⟩ => ?_) q)
  intro vs H1 k1 s1 r1
  rcases ed with ed | ed
  · subst ed
    cases r1 with
    | cons r1 r2 =>
      cases r2 with
      | cons r2 r3 =>
        cases r3
        cases r1 with
        | lst n1 h1 s2 =>
          cases r2 with
          | lst n2 h2 s3 => exact ⟨_, _, _, _, rfl, .inl ⟨.inl (.inl h1), .inl (.inl h2), q _ H1 k1 s1 (it_zip n1 h1 n2 h2 s2 s3)⟩⟩
  · subst ed
    cases r1 with
    | cons r1 r2 =>
      cases r2 with
      | cons r2 r3 =>
        cases r3
        cases r1 with
        | tup n1 h1 s2 =>
          cases r2 with
          | tup n2 h2 s3 => exact ⟨_, _, _, _, rfl, .inr ⟨.inl (.inl h1), .inl (.inl h2), q _ H1 k1 s1 (it_zipT n1 h1 n2 h2 s2 s3)⟩⟩
end
/-! slices of a list or a tuple -/
def dSlA : D → Option Int → Option Int → (D → Prop) → Prop := fun x lo hi K => (∃ l, x = .lst l ∧ K (.lst (cutD l lo hi))) ∨ ∃ l, x = .tup l ∧ K (.tup (cutD l lo hi))
theorem l_any {KK : PySem.W.Frag} : SlD (fun x lo hi H Q => rSlL KK x lo hi H Q ∨ rSlA KK x lo hi H Q) dSlA where
  mono := fun x lo hi K K' h q => q.elim (fun ⟨l, a, k⟩ => .inl ⟨l, a, h _ k⟩) fun ⟨l, a, k⟩ => .inr ⟨l, a, h _ k⟩
  run := fun m O H n v x lo hi Q gd old s r q => q.elim (fun q => .inl (l_list.run m O H n v x lo hi Q gd old s r q)) fun q => .inr (l_tup.run m O H n v x lo hi Q gd old s r q)
/-! ### an instance made, where __init__ may raise -/
def spIX (C : Addr) (T : List D → (List (Str × D) → Prop) → (Addr → List (Str × D) → Prop) → Prop) : Sp := fun vs H Q E => ∃ (x dx : Addr) (ws : List V) (ds : List D) (O : Addr → Prop), vs = .ref x :: ws ∧ H x = some (.ins C dx []) ∧ ¬ O x ∧ (∀ a, O a → H a ≠ none) ∧ Rs (fun a => O a ∨ a = x) H ws ds ∧
  T ds (fun fs => ∀ H' vfs, (∀ b o, b ≠ x → H b = some o → H' b = some o) → H' x = some (.ins C dx vfs) → Rf (fun a => O a ∨ a = x) H' vfs fs → Q .non H')
    fun C' fs => ∀ d vfs H', (∀ b o, b ≠ x → H b = some o → H' b = some o) → H' d = some (.xd vfs) → ¬ O d → Rf (fun a => O a ∨ a = x) H' vfs fs → E (.ref C') (some d) H'
section
open PySem.Spec PyProof.Rows
variable {X : Cx} {CX : CXT} {k : Nat} {f C : Addr} {fd : FuncData} {ps : List Str} {sp : Sp} {E : L2.St → XK} {σ : L2.St} {ds : List Value} {dvs : List V}
theorem run_mkS {pins : List (Addr × Obj)} {H : Hp} {s : Shared} {Q : VK} {us : List Value} {vs : List V} (M : Mk X.K C f) (F : FnOk X.prog X.w X.K X.mg X.base CX k f fd ps sp) (hr : Room (k + 1) X.A) (hb : Binds X.K fd ps ds) (hd : Vals dvs ds) (hx : PassesAt CX X σ (E σ)) (I : Inv X pins σ H s) (r : Vals vs us)
    (h : ∀ x dx, H x = none → H dx = none → dx ≠ x → sp (.ref x :: (vs ++ dvs)) (upd (upd H dx (.own x)) x (.ins C dx [])) (fun v H2 => v = .non ∧ Q (.ref x) H2) (E σ)) : wpAny (model X.prog X.w) X.A (call (.ref C) us) (EP X pins σ Q) X.xe s := by
  have I2 := Inv.made (C := C) I
  have asked := h (s.heap.objs.size + 1) s.heap.objs.size (I.hok.fresh (Nat.le_succ _)) (I.hok.fresh (Nat.le_refl _)) (Nat.ne_of_lt (Nat.lt_succ_self _))
  have rel : Vals (V.ref (s.heap.objs.size + 1) :: (vs ++ dvs)) (Value.ref (s.heap.objs.size + 1) :: (us ++ ds)) := .cons rfl (r.append hd)
  have many : (Value.ref (s.heap.objs.size + 1) :: us ++ ds).length = ps.length := (F.len _ _ _ _ asked ▸ rel.length).symm
  refine wpAny_call (make_map (f := f) I.kIn M.makes M.init (beq_iff_eq.mp M.fn) (codeAny_mono (F.run _ X.stack _ _ ⟨Value.ref (s.heap.objs.size + 1) :: us, []⟩ (Value.ref (s.heap.objs.size + 1) :: (us ++ ds)) _ _ (E σ) (hr.make C us []) (I2.env0.make C us []) (hb _ (Value.ref (s.heap.objs.size + 1) :: us) I2.kIn many) rel asked) fun z s' back => ?_))
  match z, back with
  | .error er, back => exact hx pins _ _ er s' I2 back
  | .ok (.ret u), back =>
    obtain ⟨v, H', I3, rv, ev, q3⟩ := I2.after back
    subst ev
    exact ⟨rv, V.ref (s.heap.objs.size + 1), H', I3, rfl, q3⟩
theorem pe_mkS {x : Str} {p pos : Pos} {e : Expr} {es : List Expr} {t : TA} (M : Mk X.K C f) (F : FnOk X.prog X.w X.K X.mg X.base CX k f fd ps sp) (hr : Room (k + 1) X.A) (hg : Gl X x) (hm : X.mg x = some (.ref C)) (hb : Binds X.K fd ps ds) (hd : Vals dvs ds) (hx : ∀ σ, PassesAt CX X σ (E σ)) (ha : PA X (e :: es) t)
    (hdb : (x == ("__debug__" : Str)) = false := by decide) (he : starEach (e :: es) X.env = (false, eval e X.env) :: starEach es X.env := by rfl) (hpl : (backTo pos (starEach es X.env)).any (·.1) = false := by rfl) :
    PE X (.Call (.Name x p) (e :: es) [] pos) (fun σ H Q => t σ H fun vs H1 => ∀ x dx, H1 x = none → H1 dx = none → dx ≠ x → sp (.ref x :: (vs ++ dvs)) (upd (upd H1 dx (.own x)) x (.ins C dx [])) (fun v H2 => v = .non ∧ Q (.ref x) H2) (E σ)) := by
  refine ⟨fun pins s σ H Q I h => wpAny_Call_Name_kw (ld_glob I hg hm ?_ hdb)⟩
  exact PySem.W.callWith_K (h₀ := X.base) I.ok.mod.kin M.kp (thn (ha.run pos pins s σ H _ I h) fun us s1 ⟨vs, H1, I1, r, q⟩ => ⟨I1.kIn, run_mkS M F hr hb hd (hx σ) I1 r q⟩) he hpl
end
section
variable {X : Cx} {m : Md}
abbrev TIX := List D → (List (Str × D) → Prop) → (Addr → List (Str × D) → Prop) → Prop
def IXMono (T : TIX) : Prop := ∀ ds K K' E E', (∀ fs, K fs → K' fs) → (∀ C fs, E C fs → E' C fs) → T ds K E → T ds K' E'
def tMakeXD (er : Er) (C : Addr) (T : TIX) (dd : List D) (Ts : TDs) : TD := fun env n K => Ts env n fun xs n1 => T (xs ++ dd) (fun fs => K (.obj C fs) n1) fun C' fs => er C' fs env n1
theorem v_makeX {er : Er} {C : Addr} {k : Nat} {f : Addr} {fd : FuncData} {ps : List Str} {T : TIX} {ds : List Value} {dvs : List V} {dd : List D} {x : Str} {p pos : Pos} {e : Expr} {es : List Expr} {Ts : TDs} (tk : Takes X m.W) (M : Mk X.K C f) (F : FnOk X.prog X.w X.K X.mg X.base (L2.CX X.prog X.w) k f fd ps (spIX C T)) (hm : IXMono T) (hr : Room (k + 1) X.A) (hg : Gl X x) (hmg : X.mg x = some (.ref C)) (hb : Binds X.K fd ps ds) (hd : Vals dvs ds) (rd : ∀ O H, Rs O H dvs dd) (a : AV X m (e :: es) Ts)
    (hdb : (x == ("__debug__" : Str)) = false := by decide) (he : starEach (e :: es) X.env = (false, eval e X.env) :: starEach es X.env := by rfl) (hpl : (backTo pos (starEach es X.env)).any (·.1) = false := by rfl) (her : m.er = er := by rfl) : EV X m (.Call (.Name x p) (e :: es) [] pos) (tMakeXD er C T dd Ts) := by
  subst her
  obtain ⟨t, pa, h⟩ := a.ex
  refine ⟨fun env n K K' hk q => a.mono _ _ _ _ (fun xs n1 q => hm _ _ _ _ _ (fun fs z => hk _ _ z) (fun _ _ z => z) q) q, _, pe_mkS (E := WE m.W) M F hr hg hmg hb hd (fun σ => passAt tk σ) pa hdb he hpl, fun O σ H env n Q e s q => ?_⟩
  refine h O σ H env n _ e s (a.mono _ _ _ _ (fun xs n1 q => ?_) q)
  intro vs H1 k1 s1 r1
  have e1 := e.kx k1 s1
  intro x dx nx ndx ne
  have sm : ∀ b o, H1 b = some o → (upd (upd H1 dx (.own x)) x (.ins C dx [])) b = some o := fun b o h => by rw [upd_ne (ne_of_none h nx), upd_ne (ne_of_none h ndx)]; exact h
  have nO := e1.new nx
  refine ⟨x, dx, vs ++ dvs, xs ++ dd, O, rfl, upd_same, nO, fun a ha => ?_, (r1.append (rd O H1)).keep fun b o n h => ⟨sm b o h, fun z => z.elim n (ne_of_none h nx)⟩, hm _ _ _ _ _ (fun fs o => ?_) (fun C' fs z => ?_) q⟩
  · cases z : H1 a with
    | none => exact absurd z (e1.old a ha)
    | some o => rw [sm a o z]; exact fun z => nomatch z
  · intro H' vfs kk hx rf
    have k2 : ∀ b o, H1 b = some o → H' b = some o := fun b o h => kk b o (ne_of_none h nx) (sm b o h)
    exact ⟨rfl, o _ H' (k1.trans fun b u _ h => k2 b u h) (m.keep n1 H1 H' s1 fun a u _ h => k2 a u h) (.obj nO hx (rf.keep fun b u n h => ⟨h, fun z => n (.inl z)⟩))⟩
  · intro d vfs H' kk hd' nd rf
    have k2 : ∀ b o, H1 b = some o → H' b = some o := fun b o h => kk b o (ne_of_none h nx) (sm b o h)
    exact e1.wx C' fs n1 d H' vfs (fun b u _ h => k2 b u h) (m.keep n1 H1 H' s1 fun a u _ h => k2 a u h) hd' nd (rf.keep fun b u n h => ⟨h, fun z => n (.inl z)⟩) z
end
end DL

set_option Elab.async false
set_option linter.all false
set_option maxRecDepth 100000
set_option maxHeartbeats 1000000
/-! DL22: several clauses, each with a name of its own -/
namespace DL
open PySem L2 PySem.Spec PyProof.Rows
/-- what lies in front of the clauses -/
structure Lnd (X : Cx) (pins : List (Addr × Obj)) (B : Heap) (sI : Shared) (a : Addr) (cls : Value) (d : Option Addr) (σ : L2.St) (H : Hp) (s : Shared) : Prop where
  st : X.stack = X.env :: X.outer
  fr : X.env.frame = some X.env.locals
  iv : Inv X pins σ H sI
  bs : ∀ b o, sI.heap.get? b = some o → b ∉ frs X.stack → B.get? b = some o
  up : sI.heap.UpToSlots s.heap
  fl : HandSPX.FlyingZ B (X.env :: X.outer) a (Zc cls d) s.heap
  na : H a = none
  os : s.os = sI.os
  ag : AllBare s.gens
section
variable {X : Cx} {pins : List (Addr × Obj)} {B : Heap} {sI s : Shared} {a : Addr} {cls : Value} {d : Option Addr} {σ : L2.St} {H : Hp}
theorem Lnd.re (L : Lnd X pins B sI a cls d σ H s) {h : Heap} (g : HandSPX.FlyingZ B (X.env :: X.outer) a (Zc cls d) h) (u : s.heap.UpToSlots h) : Lnd X pins B sI a cls d σ H { s with heap := h } :=
  ⟨L.st, L.fr, L.iv, L.bs, L.up.trans u, g, L.na, L.os, L.ag⟩
theorem Lnd.inv (L : Lnd X pins B sI a cls d σ H s) : Inv X pins σ H s := L.iv.landed L.bs L.fl.1 L.up L.os L.ag
theorem Lnd.exc (L : Lnd X pins B sI a cls d σ H s) : ∃ oe, s.heap.get? a = some oe ∧ Zc cls d oe ∧ (∃ vs, oe.data = .fields vs) ∧ Inv (X.suite a ((a, oe) :: (X.pn ++ pins))) [] σ H s := by
  obtain ⟨oe, vs, h1, h2, h3⟩ := L.fl.there
  have off : a ∉ frs (X.env :: X.outer) := fun hm => by
    obtain ⟨_, o, e, hn⟩ := L.fl.2.2.1.mem hm
    rw [h1] at e; cases e
    exact hn _ h3
  refine ⟨oe, h1, h2, ⟨vs, h3⟩, L.inv.suite h1 h3 L.na (fun z => off ?_) fun hm => off ?_⟩
  · exact List.mem_filterMap.mpr ⟨X.env, List.mem_cons_self, by rw [L.fr, z]⟩
  · obtain ⟨e, he, q⟩ := List.mem_filterMap.mp hm
    exact List.mem_filterMap.mpr ⟨e, List.mem_cons_of_mem _ he, q⟩
/-- an end, with slot i emptied -/
def unE (i : Nat) (D : Ends) : Ends := { nx := fun τ G => D.nx (τ.set i none) G, rt := D.rt, bk := fun τ G => D.bk (τ.set i none) G, ct := fun τ G => D.ct (τ.set i none) G }
abbrev CT := Value × Nat × (Addr → Value → Option Addr → L2.TS)
def wCls (KK : PySem.W.Frag) (Wo : WX) (D : Ends) : List CT → WX
  | [] => Wo
  | (c, i, ts) :: r => fun cls d σ H => ∃ b, PySem.W.exmOne KK cls c = some b ∧ (b = true → ∀ a, H a = none → ts a cls d (unE i D) (σ.set i (some (.ref a))) H) ∧ (b = false → wCls KK Wo D r cls d σ H)
inductive Cls' (X : Cx) : List ExceptHandler → List CT → Prop
  | nil : Cls' X [] []
  | cons {x n : Str} {c : Value} {i : Nat} {ts : Addr → Value → Option Addr → L2.TS} {b₀ : Stmt} {suite : List Stmt} {np pos' : Pos} {hds : List ExceptHandler} {l : List CT} (hi : X.N[i]? = some n) (hl : X.env.kindOf n = some .local) (hc : Names X x c)
      (hsu : ∀ (a : Addr) (oe : Obj) (cls : Value) (d : Option Addr) (pn : List (Addr × Obj)), Zc cls d oe → (∃ vs, oe.data = .fields vs) → PSs (X.suite a ((a, oe) :: pn)) (b₀ :: suite) (ts a cls d)) (r : Cls' X hds l) :
      Cls' X (.ExceptHandler (some (.Name x np)) (some n) (b₀ :: suite) pos' :: hds) ((c, i, ts) :: l)
/-- the class that a clause names is looked up -/
theorem Lnd.named {x : Str} {c : Value} {np : Pos} {Q E : Value → Shared → Prop} (L : Lnd X pins B sI a cls d σ H s) (hc : Names X x c) (q : Q c s) : wpAny (model X.prog X.w) (X.A.mark (some (.ref a))) (eval (.Name x np) X.env) Q E s := by
  obtain ⟨oe, _, _, _, S⟩ := L.exc
  obtain ⟨g1, g2, g3⟩ := hc
  rcases g3 with g3 | ⟨g3, g4, g5⟩
  · exact ld_glob (X := X.suite a ((a, oe) :: (X.pn ++ pins))) S g1 g3 q g2
  · exact ld_blt (X := X.suite a ((a, oe) :: (X.pn ++ pins))) S g1 g3 g4 q g5 g2
theorem Lnd.kind (L : Lnd X pins B sI a cls d σ H s) {M : Model} : PySem.W.Looks M s.heap (typeOf (.ref a)) cls := by
  obtain ⟨oe, h1, h2, _, _⟩ := L.exc
  exact fun A Q E s' k q => wpAny_typeOf_ref (k _ _ h1) (by rw [h2.1]; exact q)
/-- no clause is left: it goes on its way -/
theorem Lnd.away {Wo : WX} {D : Ends} (L : Lnd X pins B sI a cls d σ H s) (tk : Takes X Wo) (w : Wo cls d σ H) : wpAny (model X.prog X.w) X.A (handleBy (.ref a) X.env []) (SP X pins D) X.xe s := by
  refine wpAny_handleBy_nil ?_
  obtain ⟨_, _, _, oe, vs, T, oT, _, g1, _, g2, g3, _⟩ := id L.fl
  have last : wpAny (model X.prog X.w) X.A (setFlight (.ref a) X.env.frame) (fun _ s4 => wpAny (model X.prog X.w) X.A (throw (.ref a) : Sem Flow) (SP X pins D) X.xe s4) X.xe s := by
    rw [L.fr]
    exact HandSPX.setFlight_upZ L.fl fun h4 hh u => wpAny_throw (tk _ _ ⟨a, B, sI, pins, σ, H, cls, d, rfl, L.iv, L.bs, L.up.trans u, .inr (.inr (by rw [L.st]; exact hh)), L.na, L.os, L.ag, w⟩)
  unfold PySem.passOn
  refine wpAny_bind (wpAny_field g1 g2 g3 ?_)
  have no : ¬ ((Value.ref T == Value.none) = true) := by simp
  rw [if_neg no]
  first
    | exact wpAny_bind (wpAny_pure (wpAny_bind last))
    | exact wpAny_bind last
theorem cls_run {Wo : WX} {D : Ends} (tk : Takes X Wo) (hN : X.N.Nodup) (ok : X.Ok) : ∀ {hds : List ExceptHandler} {l : List CT}, Cls' X hds l → ∀ {s : Shared}, Lnd X pins B sI a cls d σ H s → wCls X.K Wo D l cls d σ H →
    wpAny (model X.prog X.w) X.A (handleBy (.ref a) X.env hds) (SP X pins D) X.xe s := by
  intro hds l hk
  induction hk with
  | nil => exact fun L w => L.away tk w
  | @cons x n c i ts b₀ suite np pos' hds l hi hl hc hsu r ih =>
    intro s L ⟨b, e, yes, no⟩
    refine wpAny_handleBy_cons (codeAny_handlers_test (L.named hc ((PySem.W.exm_one (M := model X.prog X.w) L.inv.kIn L.kind e).here ?_))) (by intro q; cases q)
    cases b with
    | false => exact ih L (no rfl)
    | true =>
      refine codeAny_handlers_suite_as (HandSPX.lands_againZ L.fl fun h4 f4 u4 => ?_)
      obtain ⟨oe, _, z1, z2, S⟩ := (L.re f4 u4).exc
      refine store_ok (X := X.suite a ((a, oe) :: (X.pn ++ pins))) (v := .ref a) S hN hi (.inl hl) rfl (fun s5 S5 => ?_) (.inr hl)
      have gone : ∀ {τ : L2.St} {G : Hp} {s6 : Shared} {Q : Shared → Prop}, Inv (X.suite a ((a, oe) :: (X.pn ++ pins))) [] τ G s6 → (∀ s7, Inv X pins (τ.set i none) G s7 → Q s7) →
          wpAny (model X.prog X.w) X.A (do bindName X.env n .none; unbindBehindTheSuite X.env n pos') (fun _ s7 => Q s7) X.xe s6 := fun J hq => gone_ok (J.unsuite ok) hN hi hl hq
      refine wpAny_mono ((hsu a oe cls d (X.pn ++ pins) z1 z2).run [] s5 _ H _ S5 (yes rfl a L.na)) (fun f s6 hsp => ?_) (fun _ _ z => False.elim z)
      cases f with
      | ret u =>
        obtain ⟨v, τ, G, J, rv, q⟩ := hsp
        exact gone J fun s7 J7 => ⟨_, _, _, J7, rv, q⟩
      | _ =>
        obtain ⟨τ, G, J, q⟩ := hsp
        exact gone J fun s7 J7 => ⟨_, _, J7, q⟩
/-- try: .. except A as n: .. except B as m: .. -/
theorem ps_tryN {body : List Stmt} {h₀ : ExceptHandler} {hds : List ExceptHandler} {l : List CT} {pos : Pos} {tb : WX → L2.TS} {Wo : WX} (hs : X.stack = X.env :: X.outer) (hf : X.env.frame = some X.env.locals) (hN : X.N.Nodup) (tk : Takes X Wo)
    (hb : ∀ (W : WX) (pn : List (Addr × Obj)) (xe : Value → Shared → Prop), Takes (X.tr pn xe) W → PassesOwn (model X.prog X.w) X.A X.env xe → PSs (X.tr pn xe) body (tb W))
    (hh : Cls' X (h₀ :: hds) l) : PS X (.Try body (h₀ :: hds) [] [] pos) (fun D σ H => tb (wCls X.K Wo D l) D σ H) := by
  refine ⟨fun pins s σ H D I h => wpAny_Try_except ?_⟩
  have ok := I.ok
  let X2 := fun e s₁ => wpAny (model X.prog X.w) X.A (noteFrame e X.env) (fun _ s₂ => wpAny (model X.prog X.w) X.A (setFlight e none) (fun _ s₃ => wpAny (model X.prog X.w) X.A (handleBy e X.env (h₀ :: hds)) (SP X pins D) X.xe s₃) X.xe s₂) X.xe s₁
  have taken : Takes (X.tr (X.pn ++ pins) X2) (wCls X.K Wo D l) := fun u s' ⟨a, B, sI, pins', τ, G, cls, d, eu, J, nb, up, sky, na, os, ag, w⟩ => by
    subst eu
    have sky' : Sky B (X.env :: X.outer) a (Zc cls d) X.env.locals s'.heap := hs ▸ sky
    show wpAny (model X.prog X.w) X.A (noteFrame (.ref a) X.env) _ _ _
    exact Sky.land Zc.steady (by rw [ok.frames, hs]) hf sky' fun h3 f3 u3 => cls_run tk hN ok hh ⟨hs, hf, J.ofTry ok, nb, up.trans u3, f3, na, os, ag⟩ w
  refine wpAny_mono ((hb (wCls X.K Wo D l) (X.pn ++ pins) X2 taken PassesOwn.looking).run [] s σ H D (I.toTry _) h) (fun f s1 hsp => ?_) (fun e s1 he => he)
  cases f with
  | next =>
    obtain ⟨τ, G, J, q⟩ := hsp
    exact wpAny_execs_nil ⟨τ, G, J.ofTry ok, q⟩
  | ret u =>
    obtain ⟨v, τ, G, J, r, q⟩ := hsp
    exact ⟨v, τ, G, J.ofTry ok, r, q⟩
  | _ =>
    obtain ⟨τ, G, J, q⟩ := hsp
    exact ⟨τ, G, J.ofTry ok, q⟩
end
end DL

set_option Elab.async false
set_option linter.all false
set_option maxRecDepth 100000
set_option maxHeartbeats 1000000
/-! DL23: try with several clauses; an item of an own list is set; instances made with keywords, where __init__ may raise -/
namespace DL
open PySem L2
abbrev CVT := Value × Nat × Addr × (Addr → Addr → TDS)
def unZ (i : Nat) (Z : EndD) : EndD := { nx := fun env n => Z.nx (env.set i .any) n, rt := Z.rt, bk := fun env n => Z.bk (env.set i .any) n, ct := fun env n => Z.ct (env.set i .any) n }
def eCls (K : PySem.W.Frag) (m : Md) (Z : EndD) : List CVT → Er
  | [] => fun C fs env n => m.er C fs env n
  | (c, i, C0, Ts) :: r => fun C fs env n => ∃ b, PySem.W.exmOne K (.ref C) c = some b ∧ (b = true → C = C0 ∧ ∀ a d, Ts a d (unZ i Z) (env.set i (.val (.exc a d C fs))) n) ∧ (b = false → eCls K m Z r C fs env n)
def sTryN (K : PySem.W.Frag) (m : Md) (l : List CVT) (Tb : Er → TDS) : TDS := fun Z env n => Tb (eCls K m Z l) Z env n
section
variable {X : Cx} {m : Md}
def tsOf (m : Md) (v : CVT) : Addr → Value → Option Addr → L2.TS := fun a cls d E σ H => ∃ F env n Z dd, cls = .ref v.2.2.1 ∧ d = some dd ∧ EO m.nox F σ H env ∧ m.St n H ∧ Ends' m.nox F Z E ∧ v.2.2.2 a dd Z env n
def ctOf (m : Md) (v : CVT) : CT := (v.1, v.2.1, tsOf m v)
inductive ClsV (X : Cx) (m : Md) : List ExceptHandler → List CVT → Prop
  | nil : ClsV X m [] []
  | cons {x nm : Str} {c : Value} {i : Nat} {C0 : Addr} {b₀ : Stmt} {suite : List Stmt} {np pos' : Pos} {Ts : Addr → Addr → TDS} {hds : List ExceptHandler} {l : List CVT} (hi : X.N[i]? = some nm) (hl : X.env.kindOf nm = some .local) (hc : Names X x c)
      (hsu : ∀ (a d : Addr) (oe : Obj) (pn : List (Addr × Obj)), Zc (.ref C0) (some d) oe → (∃ vs, oe.data = .fields vs) → SsV (X.suite a ((a, oe) :: pn)) m.nox (b₀ :: suite) (Ts a d)) (r : ClsV X m hds l) :
      ClsV X m (.ExceptHandler (some (.Name x np)) (some nm) (b₀ :: suite) pos' :: hds) ((c, i, C0, Ts) :: l)
theorem ClsV.to : ∀ {hds : List ExceptHandler} {l : List CVT}, ClsV X m hds l → Cls' X hds (l.map (ctOf m))
  | _, _, .nil => .nil
  | _, _, .cons (C0 := C0) hi hl hc hsu r => by
    refine .cons hi hl hc (fun a oe cls d pn hz hf => ⟨fun pins s σ H E I h => ?_⟩) r.to
    obtain ⟨F, env, n, Z, dd, rfl, rfl, e, st, z, q⟩ := h
    obtain ⟨t, p, hq⟩ := (hsu a dd oe pn hz hf).ex
    exact p.run pins s σ H E I (hq F σ H env n Z E e st z q)
theorem s_tryN {body : List Stmt} {h₀ : ExceptHandler} {hds : List ExceptHandler} {l : List CVT} {pos : Pos} {Tb : Er → TDS}
    (hs : X.stack = X.env :: X.outer) (hf : X.env.frame = some X.env.locals) (hN : X.N.Nodup) (tk : Takes X m.W)
    (hb : ∀ (W : WX) (er : Er) (pn : List (Addr × Obj)) (xe : Value → Shared → Prop), Takes (X.tr pn xe) W → PassesOwn (model X.prog X.w) X.A X.env xe → SsV (X.tr pn xe) (m.x W er) body (Tb er))
    (hh : ClsV X m (h₀ :: hds) l) : SV X m (.Try body (h₀ :: hds) [] [] pos) (sTryN X.K m l Tb) := by
  let tb : WX → L2.TS := fun W E σ H => ∃ F env n Z er, EO (m.x W er) F σ H env ∧ m.St n H ∧ Ends' (m.x W er) F Z E ∧ Tb er Z env n
  refine ⟨_, ps_tryN (tb := tb) (Wo := m.W) hs hf hN tk (fun W pn xe tk2 hp => ⟨fun pins s σ H E I h => ?_⟩) hh.to, fun F σ H env n Z E e s z q => ?_⟩
  · obtain ⟨F, env, n, Z, er, e, st, z, q⟩ := h
    obtain ⟨t, p, hz⟩ := (hb W er pn xe tk2 hp).ex
    exact p.run pins s σ H E I (hz F σ H env n Z E e st z q)
  · have out : ∀ {W er σ H env}, EO0 (m.x W er) F σ H env → EO m F σ H env := fun x => ⟨x.md rfl rfl, e.wx⟩
    have outn : ∀ {σ H env}, EO0 m.nox F σ H env → EO m F σ H env := fun x => ⟨x.md rfl rfl, e.wx⟩
    have each : ∀ {W er} (l : List CVT) σ' H' env' n' C fs d vfs, EO0 (m.x W er) F σ' H' env' → m.St n' H' → ¬ OO F.O env' σ' d → H' d = some (.xd vfs) → Rf (OO F.O env' σ') H' vfs fs → eCls X.K m Z l C fs env' n' → wCls X.K m.W E (l.map (ctOf m)) (.ref C) (some d) σ' H' := by
      intro W er l
      induction l with
      | nil => exact fun σ' H' env' n' C fs d vfs e' s' nd hd rf hq => (out e').wx σ' H' env' n' C fs d vfs (out e').o s' hd nd rf hq
      | cons v l ih =>
        obtain ⟨c, i, C0, Ts⟩ := v
        intro σ' H' env' n' C fs d vfs e' s' nd hd rf ⟨b, h1, yes, no⟩
        refine ⟨b, h1, fun hb a na => ?_, fun hb => ih σ' H' env' n' C fs d vfs e' s' nd hd rf (no hb)⟩
        obtain ⟨eC, hT⟩ := yes hb
        subst eC
        exact ⟨F, env'.set i (.val (.exc a d C fs)), n', unZ i Z, d, rfl, rfl, ⟨(e'.set (.exc nd hd rf)).md rfl rfl, fun _ _ _ _ _ _ _ _ _ _ _ _ _ z => z.elim⟩, s', ⟨fun σ2 H2 env2 n2 e2 s2 q => z.nx _ _ _ _ (outn (e2.o.unset i)) s2 q, z.rt, fun σ2 H2 env2 n2 e2 s2 q => z.bk _ _ _ _ (outn (e2.o.unset i)) s2 q, fun σ2 H2 env2 n2 e2 s2 q => z.ct _ _ _ _ (outn (e2.o.unset i)) s2 q⟩, hT a d⟩
    exact ⟨F, env, n, Z, eCls X.K m Z l, ⟨e.o.md rfl rfl, fun σ' H' env' n' C fs d vfs e' s' hd nd rf hq => each l σ' H' env' n' C fs d vfs e' s' nd hd rf hq⟩, s, ⟨fun σ' H' env' n' e' s' q => z.nx _ _ _ _ (out e'.o) s' q, z.rt, fun σ' H' env' n' e' s' q => z.bk _ _ _ _ (out e'.o) s' q, fun σ' H' env' n' e' s' q => z.ct _ _ _ _ (out e'.o) s' q⟩, q⟩
end
/-! ### xs[k] = e, of an own list -/
theorem Rs.set {O : Addr → Prop} {H : Hp} {v : V} {d : D} : ∀ {xs : List V} {ds : List D}, Rs O H xs ds → R O H v d → ∀ j, Rs O H (xs.set j v) (ds.set j d)
  | _, _, .nil, _, _ => .nil
  | _, _, .cons a r, h, 0 => .cons h r
  | _, _, .cons a r, h, j + 1 => .cons a (r.set h j)
def sSetIx (i : Nat) (Ta Tb : TD) : TDS := fun Z env n => Ta env n fun d n1 => Tb env n1 fun k n2 => ∃ ds q j, env[i]? = some (.own (.lst ds)) ∧ k = .int q ∧ ixN ds.length q = some j ∧ Z.nx (env.set i (.own (.lst (ds.set j d)))) n2
section
variable {X : Cx} {m : Md}
theorem s_setIx {st : Stmt} {e ix : Expr} {i : Nat} {Ta Tb : TD} (a : EV X m e Ta) (b : EV X m ix Tb) (hx : ∀ {t u : TE}, PE X e t → PE X ix u → PS X st (tAsg t (gSub (tVar i) u rSetL))) : SV X m st (fun Z env n => (∃ ds, env[i]? = some (.own (.lst ds))) ∧ sSetIx i Ta Tb Z env n) := by
  obtain ⟨t, p, h⟩ := a.ex
  obtain ⟨u, p2, h2⟩ := b.ex
  refine ⟨_, hx p p2, fun F σ H env n Z E e s z ⟨⟨ds0, h0⟩, q⟩ => ?_⟩
  refine h _ σ H env n _ e.ee s (a.mono _ _ _ _ (fun d n1 q => ?_) q)
  intro v H1 k1 s1 r1
  have e1 := e.kx k1 s1
  obtain ⟨b1, g1, ⟨xs, g2, g5⟩, g3, g4⟩ := e1.ee.own i _ h0
  refine ⟨.ref b1, g1, ?_⟩
  refine h2 _ σ H1 env n1 _ e1.ee s1 (b.mono _ _ _ _ (fun k n2 ⟨ds, qi, j, hd, ek, hj, q⟩ => ?_) q)
  intro w H2 k2 s2 r2
  subst ek
  cases r2
  rw [h0] at hd
  cases hd
  have e2 := e1.kx k2 s2
  obtain ⟨b', f1, ⟨ys, f2, f5⟩, f3, f4⟩ := e2.ee.own i _ h0
  rw [g1] at f1
  cases f1
  have r1' := r1.kx (k2.mono fun x h => e1.ee.gd x (m.dg x h))
  refine ⟨b1, ys, qi, j, rfl, rfl, f2, by rw [f5.length]; exact hj, ?_⟩
  refine z.nx _ _ _ _ (e2.put (w' := .lst (ds0.set j d)) h0 g1 ⟨ys.set j v, upd_same, (f5.set r1' j).keep fun c o n q => ⟨by rw [upd_ne (fun z => n (.inr (by rw [z]; exact ⟨i, _, h0, g1⟩)))]; exact q, n⟩⟩) (st_put s2 f4 (fun f z => by rw [f2] at z; cases z)) q
end
end DL

set_option Elab.async false
set_option linter.all false
set_option maxRecDepth 100000
set_option maxHeartbeats 1000000
/-! DL24: C(e, .., k = v, ..), where __init__ may raise -/
namespace DL
open PySem L2
section
open PySem.Spec PyProof.Rows
variable {X : Cx} {CX : CXT} {k nn : Nat} {f C : Addr} {fd : FuncData} {ps ks : List Str} {sp : Sp} {E : L2.St → XK} {σ : L2.St} {g : List Value → List Value → List Value}
theorem run_mkKS {pins : List (Addr × Obj)} {H : Hp} {s : Shared} {Q : VK} {us ws : List Value} {vs zs : List V} (M : Mk X.K C f) (F : FnOk X.prog X.w X.K X.mg X.base CX k f fd ps sp) (hr : Room (k + 1) X.A) (hb : KBn X.K fd ps (nn + 1) ks g (fun vs zs => vs ++ zs)) (hx : PassesAt CX X σ (E σ)) (I : Inv X pins σ H s) (r : Vals vs us) (rz : Vals zs ws) (l1 : vs.length = nn) (l2 : zs.length = ks.length)
    (h : ∀ x dx, H x = none → H dx = none → dx ≠ x → sp (.ref x :: (vs ++ zs)) (upd (upd H dx (.own x)) x (.ins C dx [])) (fun v H2 => v = .non ∧ Q (.ref x) H2) (E σ)) : wpAny (model X.prog X.w) X.A (call (.ref C) us (ks.zip ws)) (EP X pins σ Q) X.xe s := by
  have I2 := Inv.made (C := C) I
  have asked := h (s.heap.objs.size + 1) s.heap.objs.size (I.hok.fresh (Nat.le_succ _)) (I.hok.fresh (Nat.le_refl _)) (Nat.ne_of_lt (Nat.lt_succ_self _))
  have rel := hb.rel (vs := V.ref (s.heap.objs.size + 1) :: vs) (us := Value.ref (s.heap.objs.size + 1) :: us) (.cons rfl r) rz
  have many : (Value.ref (s.heap.objs.size + 1) :: us).length = nn + 1 := by rw [List.length_cons, ← r.length, l1]
  have bound := hb.to _ (Value.ref (s.heap.objs.size + 1) :: us) ws I2.kIn many (rz.length.symm.trans l2)
  refine wpAny_call (make_map (f := f) I.kIn M.makes M.init (beq_iff_eq.mp M.fn) (codeAny_mono (F.run _ X.stack _ _ ⟨Value.ref (s.heap.objs.size + 1) :: us, ks.zip ws⟩ _ _ _ (E σ) (hr.make C us (ks.zip ws)) (I2.env0.make C us (ks.zip ws)) bound rel asked) fun z s' back => ?_))
  match z, back with
  | .error er, back => exact hx pins _ _ er s' I2 back
  | .ok (.ret u), back =>
    obtain ⟨v, H', I3, rv, ev, q3⟩ := I2.after back
    subst ev
    exact ⟨rv, V.ref (s.heap.objs.size + 1), H', I3, rfl, q3⟩
theorem pe_mkKS {x : Str} {p pos : Pos} {e : Expr} {es : List Expr} {kws : List Keyword} {t tk : TA} (M : Mk X.K C f) (F : FnOk X.prog X.w X.K X.mg X.base CX k f fd ps sp) (hr : Room (k + 1) X.A) (hg : Gl X x) (hm : X.mg x = some (.ref C)) (hb : KBn X.K fd ps (nn + 1) ks g (fun vs zs => vs ++ zs)) (hx : ∀ σ, PassesAt CX X σ (E σ)) (ha : PA X (e :: es) t) (hkw : PK X kws tk)
    (hall : (backToKw pos (keywordEach kws X.env)).all (·.1.isSome) = true := by rfl) (hks : (backToKw pos (keywordEach kws X.env)).filterMap (·.1) = ks := by rfl) (hdb : (x == ("__debug__" : Str)) = false := by decide)
    (he : starEach (e :: es) X.env = (false, eval e X.env) :: starEach es X.env := by rfl) (hpl : ((backTo pos (starEach (e :: es) X.env)).any (·.1) || (backToKw pos (keywordEach kws X.env)).any (·.1.isNone)) = false := by rfl) :
    PE X (.Call (.Name x p) (e :: es) kws pos) (fun σ H Q => t σ H fun vs H1 => tk σ H1 fun zs H2 => vs.length = nn ∧ zs.length = ks.length ∧ ∀ x dx, H2 x = none → H2 dx = none → dx ≠ x → sp (.ref x :: (vs ++ zs)) (upd (upd H2 dx (.own x)) x (.ins C dx [])) (fun v H3 => v = .non ∧ Q (.ref x) H3) (E σ)) := by
  refine ⟨fun pins s σ H Q I h => wpAny_Call_Name_kw (ld_glob I hg hm ?_ hdb)⟩
  refine PySem.W.callWith_KW (h₀ := X.base) I.ok.mod.kin M.kp hall (thn (ha.run pos pins s σ H _ I h) fun us s1 ⟨vs, H1, I1, r, q⟩ => thn (hkw.run pos pins s1 σ H1 _ I1 q) fun ws s2 ⟨zs, H2, I2, rz, q2⟩ => ⟨I2.kIn, ?_⟩) hpl he
  rw [hks]
  obtain ⟨l1, l2, q3⟩ := q2
  exact run_mkKS M F hr hb (hx σ) I2 r rz l1 l2 q3
end
section
variable {X : Cx} {m : Md}
def tMakeXK (er : Er) (C : Addr) (T : TIX) (nn kk : Nat) (Ts Tk : TDs) : TD := fun env n K => Ts env n fun xs n1 => Tk env n1 fun zs n2 => xs.length = nn ∧ zs.length = kk ∧ T (xs ++ zs) (fun fs => K (.obj C fs) n2) fun C' fs => er C' fs env n2
theorem v_makeXK {er : Er} {C : Addr} {k nn : Nat} {f : Addr} {fd : FuncData} {ps ks : List Str} {T : TIX} {g : List Value → List Value → List Value} {x : Str} {p pos : Pos} {e : Expr} {es : List Expr} {kws : List Keyword} {Ts Tk : TDs} (tk : Takes X m.W) (M : Mk X.K C f) (F : FnOk X.prog X.w X.K X.mg X.base (L2.CX X.prog X.w) k f fd ps (spIX C T)) (hm : IXMono T) (hr : Room (k + 1) X.A) (hg : Gl X x) (hmg : X.mg x = some (.ref C)) (hb : KBn X.K fd ps (nn + 1) ks g (fun vs zs => vs ++ zs)) (a : AV X m (e :: es) Ts) (b : KV' X m kws Tk)
    (hall : (backToKw pos (keywordEach kws X.env)).all (·.1.isSome) = true := by rfl) (hks : (backToKw pos (keywordEach kws X.env)).filterMap (·.1) = ks := by rfl) (hdb : (x == ("__debug__" : Str)) = false := by decide)
    (he : starEach (e :: es) X.env = (false, eval e X.env) :: starEach es X.env := by rfl) (hpl : ((backTo pos (starEach (e :: es) X.env)).any (·.1) || (backToKw pos (keywordEach kws X.env)).any (·.1.isNone)) = false := by rfl) (her : m.er = er := by rfl) : EV X m (.Call (.Name x p) (e :: es) kws pos) (tMakeXK er C T nn ks.length Ts Tk) := by
  subst her
  obtain ⟨t, pa, h⟩ := a.ex
  obtain ⟨u, pb, h2⟩ := b.ex
  refine ⟨fun env n K K' hk q => a.mono _ _ _ _ (fun xs n1 q => b.mono _ _ _ _ (fun zs n2 ⟨l1, l2, q⟩ => ⟨l1, l2, hm _ _ _ _ _ (fun fs z => hk _ _ z) (fun _ _ z => z) q⟩) q) q, _, pe_mkKS (E := WE m.W) M F hr hg hmg hb (fun σ => passAt tk σ) pa pb hall hks hdb he hpl, fun O σ H env n Q e s q => ?_⟩
  refine h O σ H env n _ e s (a.mono _ _ _ _ (fun xs n1 q => ?_) q)
  intro vs H1 k1 s1 r1
  have e1 := e.kx k1 s1
  refine h2 O σ H1 env n1 _ e1 s1 (b.mono _ _ _ _ (fun ds n2 ⟨l1, l2, q⟩ => ?_) q)
  intro zs H2 k2 s2 r2
  have e2 := e1.kx k2 s2
  have r1' := r1.kx (k2.mono fun x h => e.gd x (m.dg x h))
  refine ⟨by rw [r1.length]; exact l1, by rw [r2.length]; exact l2, fun x dx nx ndx ne => ?_⟩
  have sm : ∀ b o, H2 b = some o → (upd (upd H2 dx (.own x)) x (.ins C dx [])) b = some o := fun b o h => by rw [upd_ne (ne_of_none h nx), upd_ne (ne_of_none h ndx)]; exact h
  have nO := e2.new nx
  refine ⟨x, dx, vs ++ zs, xs ++ ds, O, rfl, upd_same, nO, fun a ha => ?_, (r1'.append r2).keep fun b o n h => ⟨sm b o h, fun z => z.elim n (ne_of_none h nx)⟩, hm _ _ _ _ _ (fun fs o => ?_) (fun C' fs z => ?_) q⟩
  · cases z : H2 a with
    | none => exact absurd z (e2.old a ha)
    | some o => rw [sm a o z]; exact fun z => nomatch z
  · intro H' vfs kk hx rf
    have k3 : ∀ b o, H2 b = some o → H' b = some o := fun b o h => kk b o (ne_of_none h nx) (sm b o h)
    exact ⟨rfl, o _ H' ((k1.trans k2).trans fun b u _ h => k3 b u h) (m.keep n2 H2 H' s2 fun a u _ h => k3 a u h) (.obj nO hx (rf.keep fun b u n h => ⟨h, fun z => n (.inl z)⟩))⟩
  · intro d vfs H' kk hd' nd rf
    have k3 : ∀ b o, H2 b = some o → H' b = some o := fun b o h => kk b o (ne_of_none h nx) (sm b o h)
    exact e2.wx C' fs n2 d H' vfs (fun b u _ h => k3 b u h) (m.keep n2 H2 H' s2 fun a u _ h => k3 a u h) hd' nd (rf.keep fun b u n h => ⟨h, fun z => n (.inl z)⟩) z
end
end DL

set_option Elab.async false
set_option linter.all false
set_option maxRecDepth 100000
set_option maxHeartbeats 1000000
/-! DL25: a, b, .. = a list -/
namespace DL
open PySem L2
section
variable {X : Cx}
def fLst (k : Nat) (g : List D → List (Nat × D) → Prop) : D → List (Nat × D) → Prop := fun d asg => ∃ l, d = .lst l ∧ l.length = k ∧ g l asg
theorem t_lst {es : List Expr} {k n : Nat} {u : TGs} {g : List D → List (Nat × D) → Prop} {pos : Pos} (hc : X.calm = true) (a : TVs X es u g) (hn : (assignEach es X.env).length = n := by rfl) (hst : (assignEach es X.env).findIdx? (·.1) = none := by rfl) : TV X (.Tuple es k pos) (gLst X.K n u) (fLst n g) := by
  obtain ⟨p, h⟩ := a
  refine ⟨pg_lst hc p hn hst, fun O H v d asg r ⟨l, e1, e2, e3⟩ => ?_⟩
  subst e1
  cases r with
  | lst n1 h1 s1 =>
    obtain ⟨vas, a1, q1⟩ := h O H _ _ _ s1 e3
    exact ⟨vas, a1, fun σ Q z => ⟨_, _, rfl, .inl (.inl h1), by rw [s1.length]; exact e2, q1 _ _ z⟩⟩
end
end DL

set_option Elab.async false
set_option linter.all false
set_option maxRecDepth 100000
set_option maxHeartbeats 1000000
/-! DL26: x in an instance of an own class -/
namespace DL
open PySem L2
section
variable {X : Cx} {CX : CXT} {n : Nat} {C f : Addr} {fd : FuncData} {ps : List Str} {sp : Sp}
open PySem.Spec PyProof.Rows in
theorem op_inOwn (F : FnOk X.prog X.w X.K X.mg X.base CX n f fd ps sp) (hr : Room n X.A) (hs : PySem.W.findIn X.K (.ref C) "__contains__" = some (some (.ref f))) (hf : PySem.W.isFn X.K (.ref f) = true) (hb : Binds X.K fd ps []) (hx : Passes CX X E0) :
    OpR X (compareOp .In) (fun x y H Q => ∃ a dx fs, y = V.ref a ∧ H a = some (.ins C dx fs) ∧ sp [.ref a, x] H (fun v H' => ∃ k : Bool, v = .bl k ∧ Q (.bl k) H') E0) := by
  intro pins s σ H x y v u Q I rx ry h
  obtain ⟨a, dx, fs, rfl, ha, q⟩ := h
  cases ry
  obtain ⟨mA, J, _⟩ := ins_get I.hok ha
  obtain ⟨od, J, _⟩ := J.look
  obtain ⟨m, hF⟩ := I.fr
  have hl := F.len _ _ _ _ q
  refine PySem.W.in_K hF I.ok.mod.kin J hs hf ?_
  refine wpAny_call (codeAny_mono (F.run X.A X.stack s H ⟨[.ref a, v], []⟩ [.ref a, v] [.ref a, x] _ E0 hr I.env0 (by
    have := hb s [.ref a, v] I.kIn (by simpa using hl)
    simpa using this) (.cons rfl (.cons rx .nil)) q) fun r s' hq => ?_)
  match r, hq with
  | .error e, hq => exact hx pins σ H s e s' I hq
  | .ok (.ret z), hq =>
    obtain ⟨w, H', I', rz, k, ev, q'⟩ := I.after hq
    subst ev
    cases (show z = Value.bool k from rz)
    exact wpAny_truthy_bool ⟨.bl k, H', I', rfl, q'⟩
end
/-! ### over data -/
def rInO (C : Addr) (sp : Sp) : R2 := fun x y H Q => ∃ a dx fs, y = V.ref a ∧ H a = some (.ins C dx fs) ∧ sp [.ref a, x] H (fun v H' => ∃ k : Bool, v = .bl k ∧ Q (.bl k) H') E0
def dInO (C : Addr) (T : CD) : RD := fun x y K => ∃ l, y = .obj C l ∧ T [y, x] fun d => ∃ k, d = .bl k ∧ K (.bl k)
theorem o_inO {C : Addr} {T : CD} (hm : CMono T) : OpD (rInO C (spP T)) (dInO C T) where
  mono := fun x y K K' h ⟨l, b, k⟩ => ⟨l, b, hm _ _ _ (fun d ⟨i, e, k⟩ => ⟨i, e, h _ k⟩) k⟩
  run := fun m O H n v w x y Q gd old st r1 r2 ⟨l, b, k⟩ => by
    subst b
    cases id r2 with
    | obj n0 h0 s0 =>
      refine ⟨_, _, _, rfl, h0, [.obj C l, x], O, .cons r2 (.cons r1 .nil), old, hm _ _ _ (fun d ⟨i, e, k⟩ => ?_) k⟩
      intro v' H' sm rv
      subst e
      cases rv
      exact ⟨i, rfl, k _ H' (fun b o _ e => sm b o e) (m.keep n H H' st fun a o _ e => sm a o e) (.bl _)⟩
/-! ### an own o[i], which may raise -/
section
open PySem.Spec PyProof.Rows
variable {X : Cx} {CX : CXT} {k : Nat} {C f : Addr} {fd : FuncData} {ps : List Str} {sp : Sp} {E : L2.St → XK} {a b : Expr} {ta tb : TE} {pos : Pos}
theorem pe_ixOwn (F : FnOk X.prog X.w X.K X.mg X.base CX k f fd ps sp) (hr : Room (k + 1) X.A) (hs : PySem.W.findIn X.K (.ref C) "__getitem__" = some (some (.ref f))) (hfn : PySem.W.fnIn X.K f = true) (hf : PySem.W.isFn X.K (.ref f) = true) (hb : Binds X.K fd ps []) (hx : ∀ σ, PassesAt CX X σ (E σ)) (pa : PE X a ta) (pb : PE X b tb)
    (hsl : ∀ (p : Addr) (i : Value), subscripted b true (.ref p) i = runValue (.builtin "lifetime.subscript" ⟨[.ref p, i], []⟩) := by intros; with_unfolding_all rfl) :
    PE X (.Subscript a b pos) (fun σ H Q => ta σ H fun x H1 => tb σ H1 fun y H2 => ∃ p dx fs, x = V.ref p ∧ H2 p = some (.ins C dx fs) ∧ sp [.ref p, y] H2 Q (E σ)) := by
  refine ⟨fun pins s σ H Q I h => Subscript_ (binT pa pb I h fun v u s2 x y H2 I2 rx ry q => ?_)⟩
  obtain ⟨p, dx, fs, e, hp, q⟩ := q
  subst e
  cases rx
  obtain ⟨mA, J, _⟩ := ins_get I2.hok hp
  obtain ⟨od, J, _⟩ := J.look
  obtain ⟨m, hF⟩ := I2.fr
  have hl := F.len _ _ _ _ q
  refine PySem.W.sub_K hF I2.ok.mod.kin J hs hfn hf ?_ (hsl _ _)
  refine wpAny_call (codeAny_mono (F.run X.A.in1 X.stack s2 H2 ⟨[.ref p, u], []⟩ [.ref p, u] [.ref p, y] _ (E σ) hr.in1 I2.env0.in1 (by
    have := hb s2 [.ref p, u] I2.kIn (by simpa using hl)
    simpa using this) (.cons rfl (.cons ry .nil)) q) fun r s' hq => ?_)
  match r, hq with
  | .error e, hq => exact hx σ pins H2 s2 e s' I2 hq
  | .ok (.ret z), hq =>
    obtain ⟨w, H', I', rz, q'⟩ := I2.after hq
    exact ⟨w, H', I', rz, q'⟩
end
section
variable {X : Cx} {m : Md}
def tIxOX (er : Er) (C : Addr) (T : FX) (Ta Tb : TD) : TD := fun env n K => Ta env n fun d n1 => Tb env n1 fun i n2 => ∃ l, d = .obj C l ∧ T [d, i] n2 K fun C' fs n3 => er C' fs env n3
theorem v_ixOwn {er : Er} {C : Addr} {k : Nat} {f : Addr} {fd : FuncData} {ps : List Str} {T : FX} {a b : Expr} {Ta Tb : TD} {pos : Pos} (tk : Takes X m.W) (F : FnOk X.prog X.w X.K X.mg X.base (L2.CX X.prog X.w) k f fd ps (spX m T)) (hm : XMono T) (hr : Room (k + 1) X.A) (hs : PySem.W.findIn X.K (.ref C) "__getitem__" = some (some (.ref f))) (hfn : PySem.W.fnIn X.K f = true) (hf : PySem.W.isFn X.K (.ref f) = true) (hb : Binds X.K fd ps []) (ea : EV X m a Ta) (eb : EV X m b Tb)
    (hsl : ∀ (p : Addr) (i : Value), subscripted b true (.ref p) i = runValue (.builtin "lifetime.subscript" ⟨[.ref p, i], []⟩) := by intros; with_unfolding_all rfl) (her : m.er = er := by rfl) : EV X m (.Subscript a b pos) (tIxOX er C T Ta Tb) := by
  subst her
  obtain ⟨ta, tb, pa, pb, hz⟩ := two ea eb
  refine ⟨fun env n K K' hk q => ea.mono _ _ _ _ (fun d n1 q => eb.mono _ _ _ _ (fun i n2 ⟨l, e, q⟩ => ⟨l, e, hm _ _ _ _ _ _ hk (fun _ _ _ z => z) q⟩) q) q, _, pe_ixOwn (E := WE m.W) F hr hs hfn hf hb (fun σ => passAt tk σ) pa pb hsl, fun O σ H env n Q e s q => ?_⟩
  refine hz O σ H env n _ _ e s q fun v w x y H2 n2 k2 e2 s2 r1 r2 ⟨l, ed, q⟩ => ?_
  subst ed
  cases id r1 with
  | obj n0 h0 s0 => exact ⟨_, _, _, rfl, h0, callx_q hm e2 k2 s2 (.cons r1 (.cons r2 .nil)) q⟩
end
end DL

set_option Elab.async false
set_option linter.all false
set_option maxRecDepth 100000
set_option maxHeartbeats 1000000
/-! DL27: == and != between an instance of an own class and any other data -/
namespace DL
open PySem L2
/-! ### kinds of built-in data -/
inductive KindV (H : Hp) : V → String → Prop
  | non : KindV H .non "NoneType"
  | bl (b : Bool) : KindV H (.bl b) "bool"
  | int (i : Int) : KindV H (.int i) "int"
  | str (x : Str) : KindV H (.str x) "str"
  | lst {a : Addr} {xs : List V} (e : H a = some (.lst xs)) : KindV H (.ref a) "list"
  | tup {a : Addr} {xs : List V} (e : H a = some (.tup xs)) : KindV H (.ref a) "tuple"
  | dic {a : Addr} {kvs : List (Key × V)} (e : H a = some (.dK kvs)) : KindV H (.ref a) "dict"
theorem kind_sub {H : Hp} {y : V} {T : String} (k : KindV H y T) (K : PySem.W.Frag) (C : Addr) : PySem.W.subIn K (.type T) (.ref C) = some false := by
  cases k with
  | non => exact (show (fastBuiltinMro "NoneType").map (·.contains (.ref C)) = some false by rw [show fastBuiltinMro "NoneType" = some [.type "NoneType", .type "object"] by decide +kernel]; simp)
  | bl b => exact (show (fastBuiltinMro "bool").map (·.contains (.ref C)) = some false by rw [show fastBuiltinMro "bool" = some [.type "bool", .type "int", .type "object"] by decide +kernel]; simp)
  | int i => exact (show (fastBuiltinMro "int").map (·.contains (.ref C)) = some false by rw [show fastBuiltinMro "int" = some [.type "int", .type "object"] by decide +kernel]; simp)
  | str i => exact (show (fastBuiltinMro "str").map (·.contains (.ref C)) = some false by rw [show fastBuiltinMro "str" = some [.type "str", .type "object"] by decide +kernel]; simp)
  | lst i => exact (show (fastBuiltinMro "list").map (·.contains (.ref C)) = some false by rw [show fastBuiltinMro "list" = some [.type "list", .type "object"] by decide +kernel]; simp)
  | tup i => exact (show (fastBuiltinMro "tuple").map (·.contains (.ref C)) = some false by rw [show fastBuiltinMro "tuple" = some [.type "tuple", .type "object"] by decide +kernel]; simp)
  | dic i => exact (show (fastBuiltinMro "dict").map (·.contains (.ref C)) = some false by rw [show fastBuiltinMro "dict" = some [.type "dict", .type "object"] by decide +kernel]; simp)
section
variable {X : Cx} {pins : List (Addr × Obj)} {σ : L2.St} {H : Hp} {s : Shared}
theorem kind_is (I : Inv X pins σ H s) {y : V} {u : Value} {T : String} (r : RelV y u) (k : KindV H y T) : s.TypeIs u T := by
  cases k with
  | non => cases (show u = Value.none from r); rfl
  | bl b => cases (show u = Value.bool b from r); rfl
  | int i => obtain ⟨t, q⟩ := (show ∃ t, u = Value.int i t from r); cases q; rfl
  | str y => obtain ⟨t, q⟩ := (show ∃ t, u = Value.str y t from r); cases q; rfl
  | @lst a xs ea =>
    cases (show u = Value.ref a from r)
    obtain ⟨_, _, n, _, h1⟩ := (show ObjOk X.prog X.w H s.heap a (.lst xs) from I.hok a _ ea)
    exact ⟨_, h1, rfl⟩
  | @tup a xs ea =>
    cases (show u = Value.ref a from r)
    obtain ⟨_, _, _, p⟩ := (show ObjOk X.prog X.w H s.heap a (.tup xs) from I.hok a _ ea)
    obtain ⟨o, h1, h2, _⟩ := p
    exact ⟨o, h1, h2⟩
  | @dic a kvs ea =>
    cases (show u = Value.ref a from r)
    obtain ⟨_, _, vs, _, p⟩ := (show ObjOk X.prog X.w H s.heap a (.dK kvs) from I.hok a _ ea)
    obtain ⟨o, es, ep, h1, h2, _⟩ := p
    exact ⟨o, h1, h2.1⟩
theorem looks_is {M : Model} {u : Value} {T : String} (h : s.TypeIs u T) : PySem.W.Looks M s.heap (typeOf u) (.type T) := by
  cases u with
  | ref a =>
    obtain ⟨o, e, c⟩ := h
    exact fun A Q E s' k q => wpAny_typeOf_ref (k _ _ e) (by rw [c]; exact q)
  | _ => exact PySem.W.Looks.of_pure h
end
/-! ### a built-in == declines an instance -/
section
open PySem.Spec PyProof.Rows
variable {prog : Program} {w : World} {A : Around} {E : Value → Shared → Prop} {s : Shared} {K : PySem.W.Frag} {x C dx : Addr} {od : Option Obj}
theorem declines_none (J : PySem.W.InstAt s.heap x (PySem.W.instObj C dx) C od) {Q : Option Value → Shared → Prop} (q : Q none s) : wpAny (model prog w) A (tryCompare .none "__eq__" (.ref x)) Q E s :=
  wpAny_tryCompare_declines (show s.TypeIs .none "NoneType" from rfl) F.slot_NoneType_eq (call_gives F.slot_NoneType_eq rfl F.entry_NoneType_eq (F.args_NoneType_eq_2 _ _) (SeqAt.NoneType___eq___none_ref_0 x) ⟨rfl, q⟩)
theorem int_body (b : Value) (hb : (∃ i t, b = .int i t) ∨ ∃ k, b = .bool k) (J : PySem.W.InstAt s.heap x (PySem.W.instObj C dx) C od) {Q : Value → Shared → Prop} (q : Q .notImplemented s) :
    wpAny (model prog w) A (Builtin.«int.__eq__» ⟨[b, .ref x], []⟩) (fun fin s' => ∃ v, fin = .done (.ret v) ∧ Q v s') E s := by
  have hl := J.at_
  obtain ⟨hp, g, d, tk, os⟩ := s
  rcases hb with ⟨i, t, rfl⟩ | ⟨k, rfl⟩
  · wp_walk using wpAny_load hl
    exact ⟨_, rfl, q⟩
  · wp_walk using wpAny_load hl
    exact ⟨_, rfl, q⟩
theorem str_body (b : Str) (t : Tok) (J : PySem.W.InstAt s.heap x (PySem.W.instObj C dx) C od) {Q : Value → Shared → Prop} (q : Q .notImplemented s) :
    wpAny (model prog w) A (Builtin.«str.__eq__» ⟨[.str b t, .ref x], []⟩) (fun fin s' => ∃ v, fin = .done (.ret v) ∧ Q v s') E s := by
  have hl := J.at_
  obtain ⟨hp, g, d, tk, os⟩ := s
  wp_walk using wpAny_load hl
  exact ⟨_, rfl, q⟩
theorem inst_not {T : String} (KI : K.In s.heap) (J : PySem.W.InstAt s.heap x (PySem.W.instObj C dx) C od) (no : PySem.W.subIn K (.ref C) (.type T) = some false) : PySem.W.Looks (model prog w) s.heap (isInstance (.ref x) (.type T)) false := J.type.andThen (PySem.W.looks_subIn KI no)
theorem list_body (a : Addr) (KI : K.In s.heap) (J : PySem.W.InstAt s.heap x (PySem.W.instObj C dx) C od) (no : PySem.W.subIn K (.ref C) (.type "list") = some false) {Q : Value → Shared → Prop} (q : Q .notImplemented s) :
    wpAny (model prog w) A (Builtin.«list.__eq__» ⟨[.ref a, .ref x], []⟩) (fun fin s' => ∃ v, fin = .done (.ret v) ∧ Q v s') E s := by
  have L := inst_not (prog := prog) (w := w) KI J no
  unfold Builtin.«list.__eq__»
  refine wpAny_bind (wpAny_of_eq (a := (Value.ref a, [Value.ref x])) rfl ?_)
  refine wpAny_bind (L.here ?_)
  refine wpAny_ite_split (fun _ => ?_) (fun h => absurd rfl h)
  exact wpAny_pure ⟨_, rfl, q⟩
theorem tuple_body (a : Addr) (KI : K.In s.heap) (J : PySem.W.InstAt s.heap x (PySem.W.instObj C dx) C od) (no : PySem.W.subIn K (.ref C) (.type "tuple") = some false) {Q : Value → Shared → Prop} (q : Q .notImplemented s) :
    wpAny (model prog w) A (Builtin.«tuple.__eq__» ⟨[.ref a, .ref x], []⟩) (fun fin s' => ∃ v, fin = .done (.ret v) ∧ Q v s') E s := by
  have L := inst_not (prog := prog) (w := w) KI J no
  unfold Builtin.«tuple.__eq__»
  refine wpAny_bind (wpAny_of_eq (a := (Value.ref a, [Value.ref x])) rfl ?_)
  refine wpAny_bind (L.here ?_)
  refine wpAny_ite_split (fun _ => ?_) (fun h => absurd rfl h)
  exact wpAny_pure ⟨_, rfl, q⟩
theorem dict_body (a : Addr) (KI : K.In s.heap) (J : PySem.W.InstAt s.heap x (PySem.W.instObj C dx) C od) (no : PySem.W.subIn K (.ref C) (.type "dict") = some false) {Q : Value → Shared → Prop} (q : Q .notImplemented s) :
    wpAny (model prog w) A (Builtin.«dict.__eq__» ⟨[.ref a, .ref x], []⟩) (fun fin s' => ∃ v, fin = .done (.ret v) ∧ Q v s') E s := by
  have L := inst_not (prog := prog) (w := w) KI J no
  unfold Builtin.«dict.__eq__»
  refine wpAny_bind (wpAny_of_eq (a := (Value.ref a, Value.ref x)) rfl ?_)
  refine wpAny_bind (L.here ?_)
  refine wpAny_ite_split (fun _ => ?_) (fun h => absurd rfl h)
  exact wpAny_bind (wpAny_rule (wpAny_pure ⟨_, rfl, q⟩))
/-- the class of an own instance is no built-in one -/
structure NoBase (K : PySem.W.Frag) (C : Addr) : Prop where
  n : PySem.W.subIn K (.ref C) (.type "NoneType") = some false
  b : PySem.W.subIn K (.ref C) (.type "bool") = some false
  i : PySem.W.subIn K (.ref C) (.type "int") = some false
  s : PySem.W.subIn K (.ref C) (.type "str") = some false
  l : PySem.W.subIn K (.ref C) (.type "list") = some false
  t : PySem.W.subIn K (.ref C) (.type "tuple") = some false
  d : PySem.W.subIn K (.ref C) (.type "dict") = some false
theorem NoBase.of (N : NoBase K C) {H : Hp} {y : V} {T : String} (k : KindV H y T) : PySem.W.subIn K (.ref C) (.type T) = some false := by
  cases k with
  | non => exact N.n
  | bl b => exact N.b
  | int i => exact N.i
  | str i => exact N.s
  | lst i => exact N.l
  | tup i => exact N.t
  | dic i => exact N.d
end
section
open PySem.Spec PyProof.Rows
variable {X : Cx} {pins : List (Addr × Obj)} {σ : L2.St} {H : Hp} {s : Shared} {A : Around} {E : Value → Shared → Prop} {C x dx : Addr} {od : Option Obj}
theorem declines_K (I : Inv X pins σ H s) (N : NoBase X.K C) (J : PySem.W.InstAt s.heap x (PySem.W.instObj C dx) C od) {y : V} {u : Value} {T : String} (r : RelV y u) (k : KindV H y T) {Q : Option Value → Shared → Prop} (q : Q none s) :
    wpAny (model X.prog X.w) A (tryCompare u "__eq__" (.ref x)) Q E s := by
  have hT := kind_is I r k
  have KI := I.kIn
  cases id k with
  | non => cases (show u = Value.none from r); exact declines_none J q
  | bl b =>
    cases (show u = Value.bool b from r)
    exact wpAny_tryCompare_declines hT F.slot_bool_eq (wpAny_call_entry F.slot_bool_eq hT F.entry_int_eq (int_body _ (.inr ⟨b, rfl⟩) J ⟨rfl, q⟩) (F.args_int_eq_2 _ _))
  | int i =>
    obtain ⟨t, e⟩ := (show ∃ t, u = Value.int i t from r)
    cases e
    exact wpAny_tryCompare_declines hT F.slot_int_eq (wpAny_call_entry F.slot_int_eq hT F.entry_int_eq (int_body _ (.inl ⟨i, t, rfl⟩) J ⟨rfl, q⟩) (F.args_int_eq_2 _ _))
  | str y =>
    obtain ⟨t, e⟩ := (show ∃ t, u = Value.str y t from r)
    cases e
    exact wpAny_tryCompare_declines hT F.slot_str_eq (wpAny_call_entry F.slot_str_eq hT F.entry_str_eq (str_body y t J ⟨rfl, q⟩) (F.args_str_eq_2 _ _))
  | @lst a xs ea =>
    cases (show u = Value.ref a from r)
    exact wpAny_tryCompare_declines hT F.slot_list_eq (wpAny_call_entry F.slot_list_eq hT F.entry_list_eq (list_body a KI J N.l ⟨rfl, q⟩) (F.args_list_eq_2 _ _))
  | @tup a xs ea =>
    cases (show u = Value.ref a from r)
    exact wpAny_tryCompare_declines hT F.slot_tuple_eq (wpAny_call_entry F.slot_tuple_eq hT F.entry_tuple_eq (tuple_body a KI J N.t ⟨rfl, q⟩) (F.args_tuple_eq_2 _ _))
  | @dic a kvs ea =>
    cases (show u = Value.ref a from r)
    exact wpAny_tryCompare_declines hT F.slot_dict_eq (wpAny_call_entry F.slot_dict_eq hT F.entry_dict_eq (dict_body a KI J N.d ⟨rfl, q⟩) (F.args_dict_eq_2 _ _))
end
/-! ### the operators -/
section
variable {X : Cx} {CX : CXT} {n : Nat} {C f : Addr} {fd : FuncData} {ps : List Str} {sp : Sp}
def OwnOr (C : Addr) (H : Hp) (y : V) : Prop := (∃ b dy gs, y = V.ref b ∧ H b = some (.ins C dy gs)) ∨ ∃ T, KindV H y T
open PySem.Spec PyProof.Rows in
theorem ownOr_looks {pins : List (Addr × Obj)} {σ : L2.St} {H : Hp} {s : Shared} (I : Inv X pins σ H s) {y : V} {u : Value} (r : RelV y u) (h : OwnOr C H y) : ∃ tb, PySem.W.Looks (model X.prog X.w) s.heap (typeOf u) tb ∧ PySem.W.notFirst X.K C tb = true := by
  rcases h with ⟨b, dy, gs, rfl, hb⟩ | ⟨T, k⟩
  · cases r
    obtain ⟨mB, J', _⟩ := ins_get I.hok hb
    obtain ⟨od', J', _⟩ := J'.look
    exact ⟨_, J'.type, by simp [PySem.W.notFirst]⟩
  · exact ⟨_, looks_is (kind_is I r k), by simp [PySem.W.notFirst, kind_sub k]⟩
open PySem.Spec PyProof.Rows in
theorem op_eqOwnY (F : FnOk X.prog X.w X.K X.mg X.base CX n f fd ps sp) (hr : Room n X.A) (hs : PySem.W.findIn X.K (.ref C) "__eq__" = some (some (.ref f))) (hf : PySem.W.isFn X.K (.ref f) = true) (hb : Binds X.K fd ps []) (hx : Passes CX X E0) :
    OpR X (compareOp .Eq) (fun x y H Q => ∃ a dx fs, x = V.ref a ∧ H a = some (.ins C dx fs) ∧ OwnOr C H y ∧ sp [.ref a, y] H (fun v H' => ∃ k : Bool, v = .bl k ∧ Q (.bl k) H') E0) := by
  intro pins s σ H x y v u Q I rx ry h
  obtain ⟨a, dx, fs, rfl, ha, hy, q⟩ := h
  cases rx
  obtain ⟨mA, J, _⟩ := ins_get I.hok ha
  obtain ⟨od, J, _⟩ := J.look
  obtain ⟨tb, L, nf⟩ := ownOr_looks I ry hy
  obtain ⟨m, hF⟩ := I.fr
  have hl := F.len _ _ _ _ q
  have hu : X.A.units < cLine := by
    have := hr.un
    omega
  show wpAny _ _ (richCompare .Eq (.ref a) u) _ _ s
  refine PySem.W.cmp_K (op := .Eq) (tb := tb) hu hF I.ok.mod.kin J L nf hs hf ?_
  refine wpAny_call (codeAny_mono (F.run X.A X.stack s H ⟨[.ref a, u], []⟩ [.ref a, u] [.ref a, y] _ E0 hr I.env0 (by
    have := hb s [.ref a, u] I.kIn (by simpa using hl)
    simpa using this) (.cons rfl (.cons ry .nil)) q) fun r s' hq => ?_)
  match r, hq with
  | .error e, hq => exact hx pins σ H s e s' I hq
  | .ok (.ret z), hq =>
    obtain ⟨w, H', I', rz, k, ev, q'⟩ := I.after hq
    subst ev
    cases (show z = Value.bool k from rz)
    exact ⟨.bl k, H', I', rfl, q'⟩
end
end DL

set_option Elab.async false
set_option linter.all false
set_option maxRecDepth 100000
set_option maxHeartbeats 1000000
/-! DL28: own != any data; any data == own; over data -/
namespace DL
open PySem L2
section
variable {X : Cx} {CX : CXT} {n : Nat} {C f : Addr} {fd : FuncData} {ps : List Str} {sp : Sp}
open PySem PySem.Spec PyProof.Rows in
theorem op_neOwnY (F : FnOk X.prog X.w X.K X.mg X.base CX n f fd ps sp) (hr : Room (n + 3) X.A) (hs : PySem.W.findIn X.K (.ref C) "__ne__" = some (some (.builtin "object.__ne__"))) (he : PySem.W.findIn X.K (.ref C) "__eq__" = some (some (.ref f))) (hf : PySem.W.isFn X.K (.ref f) = true)
    (ho : PySem.W.mroIn X.K C (.type "object") = some true) (hb : Binds X.K fd ps []) (hx : Passes CX X E0) :
    OpR X (compareOp .NotEq) (fun x y H Q => ∃ a dx fs, x = V.ref a ∧ H a = some (.ins C dx fs) ∧ OwnOr C H y ∧ sp [.ref a, y] H (fun v H' => ∃ k : Bool, v = .bl k ∧ Q (.bl (!k)) H') E0) := by
  intro pins s σ H x y v u Q I rx ry h
  obtain ⟨a, dx, fs, rfl, ha, hy, q⟩ := h
  cases rx
  obtain ⟨mA, J, _⟩ := ins_get I.hok ha
  obtain ⟨od, J, _⟩ := J.look
  obtain ⟨tb, L, nf⟩ := ownOr_looks I ry hy
  have KI := I.kIn
  have S := PySem.F.cmp_object.ne
  have hl := F.len _ _ _ _ q
  have hu1 : X.A.in1.units < cLine := by
    have := hr.un
    show X.A.units + 1 < cLine
    omega
  have own : wpAny (model X.prog X.w) X.A.in1 (call (.ref f) [.ref a, u]) (fun r s' => ∃ k, r = Value.bool k ∧ EP X pins σ Q (Value.bool (!k)) s') X.xe s := by
    refine wpAny_call (codeAny_mono (F.run X.A.in1 X.stack s H ⟨[.ref a, u], []⟩ [.ref a, u] [.ref a, y] _ E0 (hr.in1.mono (by omega)) I.env0.in1 (by
      have := hb s [.ref a, u] I.kIn (by simpa using hl)
      simpa using this) (.cons rfl (.cons ry .nil)) q) fun r s' hq => ?_)
    cases r with
    | error e => exact hx pins σ H s e s' I hq
    | ok fl =>
      cases fl with
      | ret z =>
        obtain ⟨v, H', I', rz, k, ev, q'⟩ := I.after hq
        subst ev
        cases (show z = Value.bool k from rz)
        exact ⟨k, rfl, .bl (!k), H', I', rfl, q'⟩
      | next => exact False.elim hq
      | brk => exact False.elim hq
      | cont => exact False.elim hq
  have sub : PySem.W.Looks (model X.prog X.w) s.heap (isInstance (.ref a) (.type "object")) true := J.type.andThen (PySem.W.looks_mroIn KI ho)
  have body : wpAny (model X.prog X.w) X.A.in1 (Builtin.«object.__ne__» ⟨[.ref a, u], []⟩) (fun r s' => ∃ k, r = Fin.done (.ret (Value.bool (!k))) ∧ EP X pins σ Q (Value.bool (!k)) s') X.xe s := by
    unfold Builtin.«object.__ne__»
    refine wpAny_bind (wpAny_of_eq (a := (Value.ref a, [u])) rfl ?_)
    refine wpAny_bind (wpAny_cRoomFor hu1 ?_)
    refine wpAny_bind (PySem.W.ifBound_K KI J he hf (wpAny_mono own (fun r s' hq => ?_) fun _ _ e => e))
    obtain ⟨k, rfl, hq⟩ := hq
    refine wpAny_bind (wpAny_truthy_bool ?_)
    exact wpAny_pure ⟨k, rfl, hq⟩
  have ne : wpAny (model X.prog X.w) X.A (call (.builtin "object.__ne__") [.ref a, u]) (fun r s' => ∃ k, r = Value.bool k ∧ EP X pins σ Q (Value.bool k) s') X.xe s := by
    refine wpAny_call (codeAny_call_builtin S.plain PySem.F.cmpEntry_ne (@PySem.W.check_slot (model X.prog X.w) _ _ s "object.__ne__" "object" "__ne__" (.ref a) [u] [] _ PySem.F.cmpKind_ne PySem.F.cmpSplit_ne sub (PySem.F.cmpArgs_ne _ _) ?_))
    refine wpAny_mono body (fun r s' hq => ?_) fun _ _ e => e
    obtain ⟨k, rfl, hq⟩ := hq
    exact ⟨!k, rfl, hq⟩
  have one : wpAny (model X.prog X.w) X.A (tryCompare (.ref a) (cmpInfo .NotEq).2.1 u) (fun r s' => ∃ v, r = some v ∧ EP X pins σ Q v s') X.xe s := by
    unfold tryCompare
    have bnd : wpAny (model X.prog X.w) X.A (callSpecialIfBound? (.ref a) (cmpInfo .NotEq).2.1 [u]) (fun r s' => ∃ k, r = some (Value.bool k) ∧ EP X pins σ Q (Value.bool k) s') X.xe s := by
      show wpAny (model X.prog X.w) X.A (callSpecialIfBound? (.ref a) "__ne__" [u]) _ X.xe s
      simp only [callSpecialIfBound?, bindSpecialIfBound?]
      refine wpAny_holding (wpAny_bind (wpAny_bind (wpAny_bind (J.type.here ((PySem.W.looks_findIn KI hs).here ?_)))))
      refine wpAny_bind (wpAny_askSetting (wpAny_ite ?_))
      have fin : wpAny (model X.prog X.w) X.A (call (.builtin "object.__ne__") ([.ref a] ++ [u]) >>= fun v => pure (some v)) (fun r s' => ∃ k, r = some (Value.bool k) ∧ EP X pins σ Q (Value.bool k) s') X.xe s :=
        wpAny_bind (wpAny_mono ne (fun v s' hv => wpAny_pure (by obtain ⟨k, rfl, hq⟩ := hv; exact ⟨k, rfl, hq⟩)) fun _ _ e => e)
      split
      · simp only [S.bind]
        exact wpAny_bind (wpAny_pure (wpAny_pure (by exact fin)))
      · simp only [S.bind]
        exact wpAny_tryCatch (wpAny_bind (wpAny_pure (wpAny_pure (by exact fin))))
    refine wpAny_bind (wpAny_mono bnd (fun r s' hq => ?_) fun _ _ e => e)
    obtain ⟨k, rfl, hq⟩ := hq
    exact wpAny_pure ⟨_, rfl, hq⟩
  show wpAny _ _ (richCompare .NotEq (.ref a) u) _ _ s
  unfold richCompare
  simp only [oneThing_ref]
  have hu0 : X.A.units < cLine := by
    have := hr.un
    omega
  refine wpAny_holding (wpAny_bind (wpAny_cRoomFor hu0 ?_))
  refine wpAny_bind (J.type.here (wpAny_bind (L.here ?_)))
  split
  · rename_i qn
    have e : PySem.W.subIn X.K tb (.ref C) = some false := by
      rcases Bool.or_eq_true_iff.mp nf with e | e
      · rw [beq_iff_eq.mp e] at qn; simp at qn
      · exact beq_iff_eq.mp e
    refine wpAny_bind ((PySem.W.looks_subIn KI e).here ?_)
    simp only [Bool.false_eq_true, if_false]
    refine wpAny_bind (wpAny_mono one (fun r s' z => ?_) fun _ _ e => e)
    obtain ⟨v, rfl, hq⟩ := z
    exact wpAny_pure hq
  · refine wpAny_bind (wpAny_pure ?_)
    simp only [Bool.false_eq_true, if_false]
    refine wpAny_bind (wpAny_mono one (fun r s' z => ?_) fun _ _ e => e)
    obtain ⟨v, rfl, hq⟩ := z
    exact wpAny_pure hq
open PySem PySem.Spec PyProof.Rows in
theorem op_eqYOwn (F : FnOk X.prog X.w X.K X.mg X.base CX n f fd ps sp) (hr : Room n X.A) (N : NoBase X.K C) (he : PySem.W.findIn X.K (.ref C) "__eq__" = some (some (.ref f))) (hf : PySem.W.isFn X.K (.ref f) = true)
    (hb : Binds X.K fd ps []) (hx : Passes CX X E0) :
    OpR X (compareOp .Eq) (fun y x H Q => ∃ a dx fs T, x = V.ref a ∧ H a = some (.ins C dx fs) ∧ KindV H y T ∧ sp [.ref a, y] H (fun v H' => ∃ k : Bool, v = .bl k ∧ Q (.bl k) H') E0) := by
  intro pins s σ H y x u v Q I ry rx h
  obtain ⟨a, dx, fs, T, rfl, ha, k, q⟩ := h
  cases rx
  obtain ⟨mA, J, _⟩ := ins_get I.hok ha
  obtain ⟨od, J, _⟩ := J.look
  have KI := I.kIn
  have hT := kind_is I ry k
  have hl := F.len _ _ _ _ q
  have hu0 : X.A.units < cLine := by
    have := hr.un
    omega
  have own : wpAny (model X.prog X.w) X.A (call (.ref f) [.ref a, u]) (fun r s' => ∃ k, r = Value.bool k ∧ EP X pins σ Q (Value.bool k) s') X.xe s := by
    refine wpAny_call (codeAny_mono (F.run X.A X.stack s H ⟨[.ref a, u], []⟩ [.ref a, u] [.ref a, y] _ E0 hr I.env0 (by
      have := hb s [.ref a, u] I.kIn (by simpa using hl)
      simpa using this) (.cons rfl (.cons ry .nil)) q) fun r s' hq => ?_)
    cases r with
    | error e => exact hx pins σ H s e s' I hq
    | ok fl =>
      cases fl with
      | ret z =>
        obtain ⟨v, H', I', rz, k, ev, q'⟩ := I.after hq
        subst ev
        cases (show z = Value.bool k from rz)
        exact ⟨k, rfl, .bl k, H', I', rfl, q'⟩
      | next => exact False.elim hq
      | brk => exact False.elim hq
      | cont => exact False.elim hq
  have two : wpAny (model X.prog X.w) X.A (tryCompare (.ref a) "__eq__" u) (fun r s' => ∃ v, r = some v ∧ EP X pins σ Q v s') X.xe s := by
    unfold tryCompare
    refine wpAny_bind (PySem.W.ifBound_K KI J he hf (wpAny_mono own (fun r s' hq => ?_) fun _ _ e => e))
    obtain ⟨k, rfl, hq⟩ := hq
    exact wpAny_pure ⟨_, rfl, hq⟩
  show wpAny _ _ (richCompare .Eq u (.ref a)) _ _ s
  rcases hi : cmpInfo CmpOp.Eq with ⟨sym, g, r⟩
  have eg : g = "__eq__" ∧ r = "__eq__" := by
    have := hi.symm.trans (rfl : cmpInfo CmpOp.Eq = (("==" : String), ("__eq__" : Str), ("__eq__" : Str)))
    cases this
    exact ⟨rfl, rfl⟩
  obtain ⟨rfl, rfl⟩ := eg
  simp only [richCompare, hi, hT.oneThing_none]
  refine wpAny_holding (wpAny_bind (wpAny_cRoomFor hu0 ?_))
  refine wpAny_bind ((looks_is hT).here (wpAny_bind (J.type.here ?_)))
  rw [if_pos (show (Value.type T != Value.ref C) = true by simp)]
  refine wpAny_bind ((PySem.W.looks_subIn KI (N.of k)).here ?_)
  simp only [Bool.false_eq_true, if_false, Bool.not_false, if_true]
  refine wpAny_bind (m := tryCompare u _ (.ref a)) (declines_K I N J ry k ?_)
  refine wpAny_bind (m := tryCompare (.ref a) _ u) (wpAny_mono two (fun r s' z => ?_) fun _ _ e => e)
  obtain ⟨v, rfl, hq⟩ := z
  exact wpAny_pure hq
end
/-! ### over data -/
/-- plain data or an instance of the class -/
def ownD (C : Addr) : D → Bool
  | .obj C' _ => C' == C
  | .non => true
  | .bl _ => true
  | .int _ => true
  | .str _ => true
  | .lst _ => true
  | .tup _ => true
  | .dic _ => true
  | _ => false
def kindD : D → Bool
  | .non => true
  | .bl _ => true
  | .int _ => true
  | .str _ => true
  | .lst _ => true
  | .tup _ => true
  | .dic _ => true
  | _ => false
theorem kind_of {O : Addr → Prop} {H : Hp} {v : V} {d : D} (r : R O H v d) (h : kindD d = true) : ∃ T, KindV H v T := by
  cases r with
  | non => exact ⟨_, .non⟩
  | bl b => exact ⟨_, .bl b⟩
  | int i => exact ⟨_, .int i⟩
  | str x => exact ⟨_, .str x⟩
  | lst n e _ => exact ⟨_, .lst e⟩
  | tup n e _ => exact ⟨_, .tup e⟩
  | dic n e _ => exact ⟨_, .dic e⟩
  | _ => cases h
theorem ownOr_of {O : Addr → Prop} {H : Hp} {v : V} {d : D} {C : Addr} (r : R O H v d) (h : ownD C d = true) : OwnOr C H v := by
  cases id r with
  | obj n e _ =>
    have e' := beq_iff_eq.mp (show (_ == C) = true from h)
    subst e'
    exact .inl ⟨_, _, _, rfl, e⟩
  | non => exact .inr (kind_of r rfl)
  | bl b => exact .inr (kind_of r rfl)
  | int i => exact .inr (kind_of r rfl)
  | str x => exact .inr (kind_of r rfl)
  | lst n e _ => exact .inr (kind_of r rfl)
  | tup n e _ => exact .inr (kind_of r rfl)
  | dic n e _ => exact .inr (kind_of r rfl)
  | _ => cases h
def rEqY (C : Addr) (sp : Sp) : R2 := fun x y H Q => ∃ a dx fs, x = V.ref a ∧ H a = some (.ins C dx fs) ∧ OwnOr C H y ∧ sp [.ref a, y] H (fun v H' => ∃ k : Bool, v = .bl k ∧ Q (.bl k) H') E0
def rNeY (C : Addr) (sp : Sp) : R2 := fun x y H Q => ∃ a dx fs, x = V.ref a ∧ H a = some (.ins C dx fs) ∧ OwnOr C H y ∧ sp [.ref a, y] H (fun v H' => ∃ k : Bool, v = .bl k ∧ Q (.bl (!k)) H') E0
def rYEq (C : Addr) (sp : Sp) : R2 := fun y x H Q => ∃ a dx fs T, x = V.ref a ∧ H a = some (.ins C dx fs) ∧ KindV H y T ∧ sp [.ref a, y] H (fun v H' => ∃ k : Bool, v = .bl k ∧ Q (.bl k) H') E0
def dEqY (C : Addr) (T : CD) : RD := fun x y K => ∃ l, x = .obj C l ∧ ownD C y = true ∧ T [x, y] fun d => ∃ k, d = .bl k ∧ K (.bl k)
def dNeY (C : Addr) (T : CD) : RD := fun x y K => ∃ l, x = .obj C l ∧ ownD C y = true ∧ T [x, y] fun d => ∃ k, d = .bl k ∧ K (.bl (!k))
def dYEq (C : Addr) (T : CD) : RD := fun y x K => ∃ l, x = .obj C l ∧ kindD y = true ∧ T [x, y] fun d => ∃ k, d = .bl k ∧ K (.bl k)
theorem o_eqY {C : Addr} {T : CD} (hm : CMono T) : OpD (rEqY C (spP T)) (dEqY C T) where
  mono := fun x y K K' h ⟨l, a, b, k⟩ => ⟨l, a, b, hm _ _ _ (fun d ⟨i, e, k⟩ => ⟨i, e, h _ k⟩) k⟩
  run := fun m O H n v w x y Q gd old st r1 r2 ⟨l, a, b, k⟩ => by
    subst a
    cases id r1 with
    | obj n0 h0 s0 =>
      refine ⟨_, _, _, rfl, h0, ownOr_of r2 b, [.obj C l, y], O, .cons r1 (.cons r2 .nil), old, hm _ _ _ (fun d ⟨i, e, k⟩ => ?_) k⟩
      intro v' H' sm rv
      subst e
      cases rv
      exact ⟨i, rfl, k _ H' (fun b o _ e => sm b o e) (m.keep n H H' st fun a o _ e => sm a o e) (.bl _)⟩
theorem o_neY {C : Addr} {T : CD} (hm : CMono T) : OpD (rNeY C (spP T)) (dNeY C T) where
  mono := fun x y K K' h ⟨l, a, b, k⟩ => ⟨l, a, b, hm _ _ _ (fun d ⟨i, e, k⟩ => ⟨i, e, h _ k⟩) k⟩
  run := fun m O H n v w x y Q gd old st r1 r2 ⟨l, a, b, k⟩ => by
    subst a
    cases id r1 with
    | obj n0 h0 s0 =>
      refine ⟨_, _, _, rfl, h0, ownOr_of r2 b, [.obj C l, y], O, .cons r1 (.cons r2 .nil), old, hm _ _ _ (fun d ⟨i, e, k⟩ => ?_) k⟩
      intro v' H' sm rv
      subst e
      cases rv
      exact ⟨i, rfl, k _ H' (fun b o _ e => sm b o e) (m.keep n H H' st fun a o _ e => sm a o e) (.bl _)⟩
theorem o_yEq {C : Addr} {T : CD} (hm : CMono T) : OpD (rYEq C (spP T)) (dYEq C T) where
  mono := fun x y K K' h ⟨l, a, b, k⟩ => ⟨l, a, b, hm _ _ _ (fun d ⟨i, e, k⟩ => ⟨i, e, h _ k⟩) k⟩
  run := fun m O H n v w x y Q gd old st r1 r2 ⟨l, a, b, k⟩ => by
    subst a
    cases id r2 with
    | obj n0 h0 s0 =>
      obtain ⟨T', kv⟩ := kind_of r1 b
      refine ⟨_, _, _, T', rfl, h0, kv, [.obj C l, x], O, .cons r2 (.cons r1 .nil), old, hm _ _ _ (fun d ⟨i, e, k⟩ => ?_) k⟩
      intro v' H' sm rv
      subst e
      cases rv
      exact ⟨i, rfl, k _ H' (fun b o _ e => sm b o e) (m.keep n H H' st fun a o _ e => sm a o e) (.bl _)⟩
end DL

set_option Elab.async false
set_option linter.all false
set_option maxRecDepth 100000
set_option maxHeartbeats 1000000
/-! DL29: a string beside any data: ==, in a list of strings -/
namespace DL
open PySem L2
section
open PySem.Spec PyProof.Rows PySem.SeqAt
variable {A : Around} {s : Shared}
theorem str_dict_body {prog : Program} {w : World} {E : Value → Shared → Prop} (b : Str) (t : Tok) {a : Addr} {c : Value} {dd : Option Addr} {es : Array DictEntry} {ep : Nat} {sl : Array (Option Value)} (ho : s.heap.get? a = some ⟨c, dd, .dict es ep, sl⟩) {Q : Value → Shared → Prop} (q : Q .notImplemented s) :
    wpAny (model prog w) A (Builtin.«str.__eq__» ⟨[.str b t, .ref a], []⟩) (fun fin s' => ∃ v, fin = .done (.ret v) ∧ Q v s') E s := by
  obtain ⟨hp, g, d, tk, os⟩ := s
  wp_walk using wpAny_load ho
  exact ⟨_, rfl, q⟩
theorem dict_str_body {prog : Program} {w : World} {E : Value → Shared → Prop} (b : Str) (t : Tok) (a : Addr) {Q : Value → Shared → Prop} (q : Q .notImplemented s) :
    wpAny (model prog w) A (Builtin.«dict.__eq__» ⟨[.ref a, .str b t], []⟩) (fun fin s' => ∃ v, fin = .done (.ret v) ∧ Q v s') E s := by
  have L : PySem.W.Looks (model prog w) s.heap (isInstance (.str b t) (.type "dict")) false := (PySem.W.Looks.of_pure (rfl : typeOf (.str b t) = pure (.type "str"))).andThen (PySem.W.Looks.of_pure F.sub_str_dict)
  unfold Builtin.«dict.__eq__»
  refine wpAny_bind (wpAny_of_eq (a := (Value.ref a, Value.str b t)) rfl ?_)
  refine wpAny_bind (L.here ?_)
  refine wpAny_ite_split (fun _ => ?_) (fun h => absurd rfl h)
  exact wpAny_bind (wpAny_rule (wpAny_pure ⟨_, rfl, q⟩))
theorem rc_str_dict (b : Str) (t : Tok) {a : Addr} {c : Value} {dd : Option Addr} {es : Array DictEntry} {ep : Nat} {sl : Array (Option Value)} (ho : s.heap.get? a = some ⟨c, dd, .dict es ep, sl⟩) (hc : c = .type "dict") (hu : A.units < cLine) : RcAt A s (.str b t) (.ref a) false := fun prog w E Q h => by
  have hT : s.TypeIs (.ref a) "dict" := ⟨_, ho, hc⟩
  exact rc_eq_decline_or (k := false) (typeIs_str s b t) hT (by decide) F.sub_dict_str F.slot_str_eq F.slot_dict_eq_refl
    (fun _ hq => wpAny_call_entry F.slot_str_eq (typeIs_str s b t) F.entry_str_eq (str_dict_body b t ho hq) (F.args_str_eq_2 _ _))
    (fun _ hq => wpAny_call_entry F.slot_dict_eq_refl hT F.entry_dict_eq (dict_str_body b t a hq) (F.args_dict_eq_2 _ _))
    (fun _ hq => wpAny_of_eq (rfl : isSame (.str b t) (.ref a) = pure false) hq) (.inr hu) h
theorem eq_str_dict (b : Str) (t : Tok) {a : Addr} {c : Value} {dd : Option Addr} {es : Array DictEntry} {ep : Nat} {sl : Array (Option Value)} (ho : s.heap.get? a = some ⟨c, dd, .dict es ep, sl⟩) (hc : c = .type "dict") (hu : A.units < cLine) : EqAt A s (.str b t) (.ref a) false := fun prog w E Q h => by
  unfold eqBool
  refine wpAny_holding ?_
  refine wpAny_ite_split (fun hab => absurd (eq_of_beq hab) nofun) (fun _ => ?_)
  exact wpAny_bind (rc_str_dict b t ho hc hu prog w E _ (wpAny_truthy_bool h))
end
/-- whether a value is this string -/
def isStr (z : Str) : V → Bool
  | .str y => z == y
  | _ => false
section
open PySem.Spec PyProof.Rows PySem.SeqAt
variable {X : Cx} {pins : List (Addr × Obj)} {σ : L2.St} {H : Hp} {s : Shared} {A : Around}
theorem rc_strK (I : Inv X pins σ H s) (hu : A.units < cLine) (z : Str) (t : Tok) {y : V} {u : Value} {T : String} (r : RelV y u) (k : KindV H y T) : RcAt A s (.str z t) u (isStr z y) := by
  cases id k with
  | non => cases (show u = Value.none from r); exact RcAt.str_none z t
  | bl b => cases (show u = Value.bool b from r); exact RcAt.str_bool z t b
  | int i => obtain ⟨t', e⟩ := (show ∃ t, u = Value.int i t from r); cases e; exact RcAt.str_int z t i t'
  | str y => obtain ⟨t', e⟩ := (show ∃ t, u = Value.str y t from r); cases e; exact RcAt.str_str z t y t'
  | @lst a xs ea =>
    cases (show u = Value.ref a from r)
    obtain ⟨its, _, pl, _⟩ := I.list (.inl (.inl ea))
    exact RcAt.str_list z t pl.isList hu
  | @tup a xs ea =>
    cases (show u = Value.ref a from r)
    obtain ⟨its, _, pl, _⟩ := I.tuple (.inl (.inl ea))
    exact RcAt.str_tuple z t pl hu
  | @dic a kvs ea =>
    cases (show u = Value.ref a from r)
    obtain ⟨_, _, vs, _, p⟩ := (show ObjOk X.prog X.w H s.heap a (.dK kvs) from I.hok a _ ea)
    obtain ⟨o, es, ep, h1, h2, h3, _⟩ := p
    obtain ⟨c, dd, data, sl⟩ := o
    have e1 : c = .type "dict" := h2.1
    have e2 : data = .dict es ep := h3
    subst e2
    exact rc_str_dict z t h1 e1 hu
theorem eq_strK (I : Inv X pins σ H s) (hu : A.units < cLine) (z : Str) (t : Tok) {y : V} {u : Value} {T : String} (r : RelV y u) (k : KindV H y T) : EqAt A s (.str z t) u (isStr z y) := by
  cases id k with
  | non => cases (show u = Value.none from r); exact EqAt.str_none z t
  | bl b => cases (show u = Value.bool b from r); exact EqAt.str_bool z t b
  | int i => obtain ⟨t', e⟩ := (show ∃ t, u = Value.int i t from r); cases e; exact EqAt.str_int z t i t'
  | str y => obtain ⟨t', e⟩ := (show ∃ t, u = Value.str y t from r); cases e; exact EqAt.str_str z t y t'
  | @lst a xs ea =>
    cases (show u = Value.ref a from r)
    obtain ⟨its, _, pl, _⟩ := I.list (.inl (.inl ea))
    exact EqAt.str_list z t pl.isList hu
  | @tup a xs ea =>
    cases (show u = Value.ref a from r)
    obtain ⟨its, _, pl, _⟩ := I.tuple (.inl (.inl ea))
    exact EqAt.str_tuple z t pl hu
  | @dic a kvs ea =>
    cases (show u = Value.ref a from r)
    obtain ⟨_, _, vs, _, p⟩ := (show ObjOk X.prog X.w H s.heap a (.dK kvs) from I.hok a _ ea)
    obtain ⟨o, es, ep, h1, h2, h3, _⟩ := p
    obtain ⟨c, dd, data, sl⟩ := o
    have e1 : c = .type "dict" := h2.1
    have e2 : data = .dict es ep := h3
    subst e2
    exact eq_str_dict z t h1 e1 hu
end
section
open PySem.Spec PyProof.Rows
variable {X : Cx}
def rEqZ : R2 := fun x y H Q => ∃ z T, x = .str z ∧ KindV H y T ∧ Q (.bl (isStr z y)) H
theorem op_eqZ (hu : X.A.units < cLine) : OpR X (compareOp .Eq) rEqZ := by
  intro pins s σ H x y v u Q I rx ry h
  obtain ⟨z, T, rfl, k, q⟩ := h
  obtain ⟨t, e⟩ := (show ∃ t, v = Value.str z t from rx)
  cases e
  exact rc_strK I hu z t ry k X.prog X.w _ _ ⟨.bl _, H, I, rfl, q⟩
def rInZ : R2 := fun x y H Q => ∃ (p : Addr) (zs : List Str) (T : String), y = .ref p ∧ H p = some (.lst (zs.map V.str)) ∧ KindV H x T ∧ Q (.bl (zs.any fun z => isStr z x)) H
def uStr (x : V) : Value → Bool
  | .str z _ => isStr z x
  | _ => false
theorem u_any (x : V) : ∀ {zs : List Str} {us : List Value}, Vals (zs.map V.str) us → us.any (uStr x) = zs.any fun z => isStr z x
  | [], _, .nil => rfl
  | z :: zs, _, .cons r t => by
    obtain ⟨t', e⟩ := (show ∃ t, _ = Value.str z t from r)
    subst e
    rw [List.any_cons, List.any_cons, u_any x t]; rfl
theorem u_mem {zs : List Str} : ∀ {us : List Value}, Vals (zs.map V.str) us → ∀ u ∈ us, ∃ z t, u = Value.str z t := by
  induction zs with
  | nil => intro us r u hu; cases r; cases hu
  | cons z zs ih =>
    intro us r u hu
    cases r with
    | cons r1 r2 =>
      rcases List.mem_cons.mp hu with e | hu
      · obtain ⟨t', e'⟩ := (show ∃ t, _ = Value.str z t from r1)
        exact ⟨z, t', e.trans e'⟩
      · exact ih r2 u hu
theorem op_inZ (hu : X.A.units + 64 < cLine) : OpR X (compareOp .In) rInZ := by
  intro pins s σ H x y v u Q I rx ry h
  obtain ⟨p, zs, T, rfl, hp, k, q⟩ := h
  cases ry
  obtain ⟨its, r, pl, hz⟩ := I.list (.inl (.inl hp))
  refine SeqAt.in_listAt (uStr x) pl.isList (fun w hw => ?_) ⟨.bl _, H, I, rfl, ?_⟩
  · obtain ⟨z, t, e⟩ := u_mem r w (by simpa using hw)
    subst e
    exact eq_strK I (show X.A.units + 1 < cLine by omega) z t rx k
  · rw [show its.toArray.any (uStr x) = its.any (uStr x) by simp, u_any x r]
    exact q
end
/-! ### over data -/
def eqZ (z : Str) : D → Bool
  | .str y => z == y
  | _ => false
theorem eqZ_of {O : Addr → Prop} {H : Hp} {v : V} {d : D} (r : R O H v d) (z : Str) : isStr z v = eqZ z d := by cases r <;> rfl
def dEqZ : RD := fun x y K => ∃ z, x = .str z ∧ kindD y = true ∧ K (.bl (eqZ z y))
theorem o_eqZ : OpD rEqZ dEqZ where
  mono := fun x y K K' h ⟨z, a, b, k⟩ => ⟨z, a, b, h _ k⟩
  run := fun m O H n v w x y Q gd old s r1 r2 ⟨z, a, b, k⟩ => by
    subst a
    cases id r1
    obtain ⟨T, kv⟩ := kind_of r2 b
    exact ⟨z, T, rfl, kv, k _ H KX.refl s (by rw [eqZ_of r2 z]; exact .bl _)⟩
theorem vstrs_of {O : Addr → Prop} {H : Hp} : ∀ {zs : List Str} {vs : List V}, Rs O H vs (zs.map D.str) → vs = zs.map V.str
  | [], _, h => by cases h; rfl
  | z :: zs, _, h => by
    cases h with
    | cons a r => cases a; rw [vstrs_of r]; rfl
def dInZ : RD := fun x y K => ∃ zs : List Str, y = .lst (zs.map D.str) ∧ kindD x = true ∧ K (.bl (zs.any fun z => eqZ z x))
theorem o_inZ : OpD rInZ dInZ where
  mono := fun x y K K' h ⟨z, a, b, k⟩ => ⟨z, a, b, h _ k⟩
  run := fun m O H n v w x y Q gd old s r1 r2 ⟨zs, a, b, k⟩ => by
    subst a
    cases id r2 with
    | lst n1 h1 s1 =>
      have e := vstrs_of s1
      subst e
      obtain ⟨T, kv⟩ := kind_of r1 b
      refine ⟨_, zs, T, rfl, h1, kv, k _ H KX.refl s ?_⟩
      rw [show (fun z => isStr z v) = fun z => eqZ z x from funext fun z => eqZ_of r1 z]
      exact .bl _
end DL

set_option Elab.async false
set_option linter.all false
set_option maxRecDepth 100000
set_option maxHeartbeats 1000000
/-! DL30: an instance made without errors: no positional values, keywords, defaults -/
namespace DL
open PySem L2
section
open PySem.Spec PyProof.Rows
variable {X : Cx} {m : Md} {k nn : Nat} {f C : Addr} {fd : FuncData} {ps ks : List Str} {T : List D → (List (Str × D) → Prop) → Prop} {x : Str} {p pos : Pos}
theorem v_makeP0 {g : List Value → List Value → List Value} {gV : List V → List V → List V} {gD : List D → List D} {kws : List Keyword} {Tk : TDs} (M : Mk X.K C f) (F : FnOk X.prog X.w X.K X.mg X.base CX0 k f fd ps (spI C T)) (hm : ∀ ds K K', (∀ fs, K fs → K' fs) → T ds K → T ds K') (hr : Room (k + 1) X.A) (hg : Gl X x) (hmg : X.mg x = some (.ref C)) (hb : KBn X.K fd ps 1 ks g gV) (b : KV' X m kws Tk)
    (hgV : ∀ (O : Addr → Prop) (H : Hp) (a : Addr) (zs : List V) (ds : List D), Rs O H zs ds → ds.length = ks.length → ∃ ws, gV [.ref a] zs = .ref a :: ws ∧ Rs O H ws (gD ds))
    (hall : (backToKw pos (keywordEach kws X.env)).all (·.1.isSome) = true := by rfl) (hks : (backToKw pos (keywordEach kws X.env)).filterMap (·.1) = ks := by rfl) (hdb : (x == ("__debug__" : Str)) = false := by decide)
    (hpl : ((backTo pos (starEach [] X.env)).any (·.1) || (backToKw pos (keywordEach kws X.env)).any (·.1.isNone)) = false := by rfl) :
    EV X m (.Call (.Name x p) [] kws pos) (fun env n K => Tk env n fun zs n2 => zs.length = ks.length ∧ T (gD zs) fun fs => K (.obj C fs) n2) := by
  obtain ⟨u, pb, h2⟩ := b.ex
  refine ⟨fun env n K K' hk q => b.mono _ _ _ _ (fun zs n2 ⟨l2, q⟩ => ⟨l2, hm _ _ _ (fun fs z => hk _ _ z) q⟩) q, _, pe_makeK0 M F hr hg hmg hb pass0 pb hall hks hdb hpl, fun O σ H env n Q e s q => ?_⟩
  refine h2 O σ H env n _ e s (b.mono _ _ _ _ (fun ds n2 ⟨l2, q⟩ => ?_) q)
  intro zs H2 k2 s2 r2
  refine ⟨rfl, by rw [r2.length]; exact l2, fun x dx nx ndx ne => ?_⟩
  obtain ⟨ws, eq, rr⟩ := hgV _ _ x zs ds r2 l2
  rw [eq]
  exact make_q hm (e.kx k2 s2) k2 s2 rr q x dx nx ndx ne
theorem v_makePK {g : List Value → List Value → List Value} {e : Expr} {es : List Expr} {kws : List Keyword} {Ts Tk : TDs} (M : Mk X.K C f) (F : FnOk X.prog X.w X.K X.mg X.base CX0 k f fd ps (spI C T)) (hm : ∀ ds K K', (∀ fs, K fs → K' fs) → T ds K → T ds K') (hr : Room (k + 1) X.A) (hg : Gl X x) (hmg : X.mg x = some (.ref C)) (hb : KBn X.K fd ps (nn + 1) ks g (fun vs zs => vs ++ zs)) (a : AV X m (e :: es) Ts) (b : KV' X m kws Tk)
    (hall : (backToKw pos (keywordEach kws X.env)).all (·.1.isSome) = true := by rfl) (hks : (backToKw pos (keywordEach kws X.env)).filterMap (·.1) = ks := by rfl) (hdb : (x == ("__debug__" : Str)) = false := by decide)
    (he : starEach (e :: es) X.env = (false, eval e X.env) :: starEach es X.env := by rfl) (hpl : ((backTo pos (starEach (e :: es) X.env)).any (·.1) || (backToKw pos (keywordEach kws X.env)).any (·.1.isNone)) = false := by rfl) :
    EV X m (.Call (.Name x p) (e :: es) kws pos) (fun env n K => Ts env n fun xs n1 => Tk env n1 fun zs n2 => xs.length = nn ∧ zs.length = ks.length ∧ T (xs ++ zs) fun fs => K (.obj C fs) n2) := by
  obtain ⟨t, pa, h⟩ := a.ex
  obtain ⟨u, pb, h2⟩ := b.ex
  refine ⟨fun env n K K' hk q => a.mono _ _ _ _ (fun xs n1 q => b.mono _ _ _ _ (fun zs n2 ⟨l1, l2, q⟩ => ⟨l1, l2, hm _ _ _ (fun fs z => hk _ _ z) q⟩) q) q, _, pe_makeK M F hr hg hmg hb pass0 pa pb hall hks hdb he hpl, fun O σ H env n Q e s q => ?_⟩
  refine h O σ H env n _ e s (a.mono _ _ _ _ (fun xs n1 q => ?_) q)
  intro vs H1 k1 s1 r1
  have e1 := e.kx k1 s1
  refine h2 O σ H1 env n1 _ e1 s1 (b.mono _ _ _ _ (fun ds n2 ⟨l1, l2, q⟩ => ?_) q)
  intro zs H2 k2 s2 r2
  have e2 := e1.kx k2 s2
  have r1' := r1.kx (k2.mono fun x h => e.gd x (m.dg x h))
  refine ⟨by rw [r1.length]; exact l1, by rw [r2.length]; exact l2, fun x dx nx ndx ne => ?_⟩
  exact make_q (σ := σ) hm e2 (k1.trans k2) s2 (r1'.append r2) q x dx nx ndx ne
theorem v_makePD {ds : List Value} {dvs : List V} {dd : List D} {e : Expr} {es : List Expr} {Ts : TDs} (M : Mk X.K C f) (F : FnOk X.prog X.w X.K X.mg X.base CX0 k f fd ps (spI C T)) (hm : ∀ ds K K', (∀ fs, K fs → K' fs) → T ds K → T ds K') (hr : Room (k + 1) X.A) (hg : Gl X x) (hmg : X.mg x = some (.ref C)) (hb : Binds X.K fd ps ds) (hd : Vals dvs ds) (rd : ∀ O H, Rs O H dvs dd) (a : AV X m (e :: es) Ts)
    (hdb : (x == ("__debug__" : Str)) = false := by decide) (he : starEach (e :: es) X.env = (false, eval e X.env) :: starEach es X.env := by rfl) (hpl : (backTo pos (starEach es X.env)).any (·.1) = false := by rfl) : EV X m (.Call (.Name x p) (e :: es) [] pos) (fun env n K => Ts env n fun xs n1 => T (xs ++ dd) fun fs => K (.obj C fs) n1) := by
  obtain ⟨t, pa, h⟩ := a.ex
  refine ⟨fun env n K K' hk q => a.mono _ _ _ _ (fun xs n1 q => hm _ _ _ (fun fs z => hk _ _ z) q) q, _, pe_make M F hr hg hmg hb hd pass0 pa hdb he hpl, fun O σ H env n Q e s q => ?_⟩
  refine h O σ H env n _ e s (a.mono _ _ _ _ (fun xs n1 q => ?_) q)
  intro vs H1 k1 s1 r1
  exact make_q hm (e.kx k1 s1) k1 s1 (r1.append (rd _ _)) q
end
end DL

set_option Elab.async false
set_option linter.all false
set_option maxRecDepth 100000
set_option maxHeartbeats 1000000
/-! DL31: isinstance(x, C) of any data, C an own class -/
namespace DL
open PySem L2
structure OwnC (K : PySem.W.Frag) (C : Addr) : Prop where
  isC : PySem.W.isClsIn K C = true
  ty : PySem.W.typeIn K (.ref C) = some (.type "type")
  cl : Cls K C
  ha : PySem.W.findIn K (.ref C) "__class__" = some (some (.builtin "object.__class__"))
  hn : PySem.W.specialIn K (.builtin "object.__class__") "__get__" = some (some (.builtin "getset_descriptor.__get__"))
  ht : PySem.W.takesIn K (.builtin "object.__class__") = some true
  ho : PySem.W.mroIn K C (.type "object") = some true
  nb : NoBase K C
theorem OwnC.kit {K : PySem.W.Frag} {C : Addr} (O : OwnC K C) {H : Hp} {y : V} {T : String} (k : KindV H y T) : PySem.W.kitOne K (.type T) (.ref C) = some false := by
  unfold PySem.W.kitOne PySem.W.kitCls
  rw [if_neg (by simp)]
  have h : ((PySem.W.clsIn K C).isSome && PySem.W.typeIn K (.ref C) == some (.type "type")) = true := by
    rw [Bool.and_eq_true]
    exact ⟨O.isC, beq_iff_eq.mpr O.ty⟩
  show (if ((PySem.W.clsIn K C).isSome && PySem.W.typeIn K (.ref C) == some (.type "type")) = true then PySem.W.subIn K (.type T) (.ref C) else none) = some false
  rw [if_pos h]
  exact kind_sub k K C
theorem kind_ty {K : PySem.W.Frag} {H : Hp} {y : V} {T : String} (k : KindV H y T) : TyX K H y (.type T) := by
  cases k with
  | non => exact .base .non
  | bl b => exact .base (.bl b)
  | int b => exact .base (.int b)
  | str b => exact .base (.str b)
  | lst e => exact .base (.lst e)
  | tup e => exact .base (.tup e)
  | dic e => exact .base (.dK e)
def isObj : D → Bool
  | .obj _ _ => true
  | _ => false
def cIsiO (C : Addr) : CD := fun xs K => ∃ x, xs = [x, .ptr C] ∧ ownD C x = true ∧ K (.bl (isObj x))
theorem ownD_kind {C : Addr} {d : D} (h : ownD C d = true) : (∃ l, d = .obj C l) ∨ (kindD d = true ∧ isObj d = false) := by
  cases d with
  | obj C' l =>
    have e := beq_iff_eq.mp (show (C' == C) = true from h)
    subst e
    exact .inl ⟨l, rfl⟩
  | non => exact .inr ⟨rfl, rfl⟩
  | bl b => exact .inr ⟨rfl, rfl⟩
  | int i => exact .inr ⟨rfl, rfl⟩
  | str x => exact .inr ⟨rfl, rfl⟩
  | lst l => exact .inr ⟨rfl, rfl⟩
  | tup l => exact .inr ⟨rfl, rfl⟩
  | dic l => exact .inr ⟨rfl, rfl⟩
  | _ => cases h
theorem k_isiO {KK : PySem.W.Frag} {C : Addr} (OC : OwnC KK C) : CallD (rIsi KK) (cIsiO C) where
  mono := fun xs K K' h ⟨x, a, c, k⟩ => ⟨x, a, c, h _ k⟩
  run := fun m O H n vs xs Q gd old st r ⟨x, a, c, k⟩ => by
    subst a
    cases r with
    | cons r1 r2 =>
      cases r2 with
      | cons r2 r3 =>
        cases r3
        cases r2
        rcases ownD_kind c with ⟨l, e⟩ | ⟨kd, no⟩
        · subst e
          cases id r1 with
          | obj n0 h0 s0 =>
            exact ⟨_, _, _, _, true, rfl, .own C, .base (.ins h0 OC.cl OC.ha OC.hn OC.ht OC.ho), by unfold PySem.W.kitOne; rw [if_pos (by simp)], k _ H KX.refl st (.bl _)⟩
        · obtain ⟨T, kv⟩ := kind_of r1 kd
          rw [no] at k
          exact ⟨_, _, _, _, false, rfl, .own C, kind_ty kv, OC.kit kv, k _ H KX.refl st (.bl _)⟩
end DL

set_option Elab.async false
set_option linter.all false
set_option maxRecDepth 100000
set_option maxHeartbeats 1000000
/-! DL32: a value that is a list of one's own or any other; an instance made of what one owns, all its own data new -/
namespace DL
open PySem L2
inductive FD
  | own (ds : List D)
  | val (d : D)
def EOut (m : Md) (O : Addr → Prop) (H : Hp) (Q : VK) : FD → Nat → Prop
  | .own ds, n => FOut m O H Q ds n
  | .val d, n => Out m O H Q d n
structure GV (X : Cx) (m : Md) (e : Expr) (T : Sls → Nat → (FD → Nat → Prop) → Prop) : Prop where
  mono : ∀ env n K K', (∀ d n, K d n → K' d n) → T env n K → T env n K'
  ex : ∃ t, PE X e t ∧ ∀ O σ H env n Q, EE m O σ H env → m.St n H → T env n (EOut m O H Q) → t σ H Q
section
variable {X : Cx} {m : Md}
def sOwnE (i : Nat) (T : Sls → Nat → (FD → Nat → Prop) → Prop) : TDS := fun Z env n => T env n fun r n1 => match r with
  | .own ds => i < env.length ∧ Z.nx (env.set i (.own (.lst ds))) n1
  | .val d => Z.nx (env.set i (.val d)) n1
theorem s_ownE {st : Stmt} {e : Expr} {i : Nat} {T : Sls → Nat → (FD → Nat → Prop) → Prop} (a : GV X m e T) (hx : ∀ {t : TE}, PE X e t → PS X st (tAsg t (gName i))) : SV X m st (sOwnE i T) := by
  obtain ⟨t, p, h⟩ := a.ex
  refine ⟨_, hx p, fun F σ H env n Z E e s z q => ?_⟩
  refine h _ σ H env n _ e.ee s (a.mono _ _ _ _ (fun r n1 q => ?_) q)
  cases r with
  | own ds =>
    intro b xs H1 k1 s1 nb nO hb rs
    exact z.nx _ _ _ _ (e.take (w := .lst ds) s1 k1 q.1 nb ⟨xs, hb, rs⟩) s1 q.2
  | val d =>
    intro v H1 k1 s1 r1
    exact z.nx _ _ _ _ ((e.kx k1 s1).set (i := i) r1) s1 q
theorem s_setOwnE {i : Nat} {x : Str} {e : Expr} {T : Sls → Nat → (FD → Nat → Prop) → Prop} {pos pos' : Pos} (hN : X.N.Nodup) (hi : X.N[i]? = some x) (hx : Loc X.env.scope x) (a : GV X m e T) (hs : swapsWith e (some (.Name x pos')) pos.line X.env = pure false := by rfl) (hf : X.fn x = true ∨ X.env.scope.names.lookup x = some .local := by first | exact .inl rfl | exact .inr rfl | assumption) : SV X m (.Assign [.Name x pos'] e pos) (sOwnE i T) := s_ownE a fun p => ps_set hN hi hx p hs hf
end
/-! ### made of one's own -/
def spIN (C : Addr) (T : List D → (List (Str × D) → Prop) → Prop) : Sp := fun vs H Q _ => ∃ (x dx : Addr) (ws : List V) (ds : List D) (O : Addr → Prop), vs = .ref x :: ws ∧ H x = some (.ins C dx []) ∧ ¬ O x ∧ (∀ a, O a → H a ≠ none) ∧ Rs (fun a => O a ∨ a = x) H ws ds ∧
  T ds (fun fs => ∀ H' vfs, (∀ b o, b ≠ x → H b = some o → H' b = some o) → H' x = some (.ins C dx vfs) → Rf (fun b => H b ≠ none) H' vfs fs → Q .non H')
section
open PySem.Spec PyProof.Rows
variable {X : Cx} {m : Md} {k nn : Nat} {f C : Addr} {fd : FuncData} {ps ks : List Str} {T : List D → (List (Str × D) → Prop) → Prop} {x : Str} {p pos : Pos}
theorem v_makeNew {g : List Value → List Value → List Value} {e : Expr} {es : List Expr} {kws : List Keyword} {Ts Tk : TDs} (M : Mk X.K C f) (F : FnOk X.prog X.w X.K X.mg X.base CX0 k f fd ps (spIN C T)) (hm : ∀ ds K K', (∀ fs, K fs → K' fs) → T ds K → T ds K') (hr : Room (k + 1) X.A) (hg : Gl X x) (hmg : X.mg x = some (.ref C)) (hb : KBn X.K fd ps (nn + 1) ks g (fun vs zs => vs ++ zs)) (a : AV X m.nox (e :: es) Ts) (b : KV' X m.nox kws Tk)
    (hall : (backToKw pos (keywordEach kws X.env)).all (·.1.isSome) = true := by rfl) (hks : (backToKw pos (keywordEach kws X.env)).filterMap (·.1) = ks := by rfl) (hdb : (x == ("__debug__" : Str)) = false := by decide)
    (he : starEach (e :: es) X.env = (false, eval e X.env) :: starEach es X.env := by rfl) (hpl : ((backTo pos (starEach (e :: es) X.env)).any (·.1) || (backToKw pos (keywordEach kws X.env)).any (·.1.isNone)) = false := by rfl) :
    EV X m (.Call (.Name x p) (e :: es) kws pos) (fun env n K => Ts (peek env) n fun xs n1 => Tk (peek env) n1 fun zs n2 => xs.length = nn ∧ zs.length = ks.length ∧ T (xs ++ zs) fun fs => K (.obj C fs) n2) := by
  obtain ⟨t, pa, h⟩ := a.ex
  obtain ⟨u, pb, h2⟩ := b.ex
  refine ⟨fun env n K K' hk q => a.mono _ _ _ _ (fun xs n1 q => b.mono _ _ _ _ (fun zs n2 ⟨l1, l2, q⟩ => ⟨l1, l2, hm _ _ _ (fun fs z => hk _ _ z) q⟩) q) q, _, pe_makeK M F hr hg hmg hb pass0 pa pb hall hks hdb he hpl, fun O σ H env n Q e s q => ?_⟩
  have e0 : EE m.nox (fun a => O a ∧ ¬ ownA env σ a) σ H (peek env) := e.peek.nox
  refine h _ σ H _ n _ e0 s (a.mono _ _ _ _ (fun xs n1 q => ?_) q)
  intro vs H1 k1 s1 r1
  have e1 := e0.kx k1 s1
  refine h2 _ σ H1 _ n1 _ e1 s1 (b.mono _ _ _ _ (fun ds n2 ⟨l1, l2, q⟩ => ?_) q)
  intro zs H2 k2 s2 r2
  have e2 := e1.kx k2 s2
  have eO := (e.kx k1 s1).kx k2 s2
  have r1' := r1.kx (k2.mono fun x h => e1.gd x (m.dg x h))
  refine ⟨by rw [r1.length]; exact l1, by rw [r2.length]; exact l2, fun x dx nx ndx ne => ?_⟩
  have sm : ∀ b o, H2 b = some o → (upd (upd H2 dx (.own x)) x (.ins C dx [])) b = some o := fun b o h => by rw [upd_ne (ne_of_none h nx), upd_ne (ne_of_none h ndx)]; exact h
  have old : ∀ b, O b → (upd (upd H2 dx (.own x)) x (.ins C dx [])) b ≠ none := fun b hb => by
    cases z : H2 b with
    | none => exact absurd z (eO.old b hb)
    | some o => rw [sm b o z]; exact fun z => nomatch z
  refine ⟨x, dx, vs ++ zs, xs ++ ds, fun a => O a ∧ ¬ ownA env σ a, rfl, upd_same, e2.new nx, fun a ha => old a ha.1, (r1'.append r2).keep fun b o n h => ⟨sm b o h, fun z => z.elim n (ne_of_none h nx)⟩, hm _ _ _ (fun fs o => ?_) q⟩
  intro H' vfs kk hx rf
  have k3 : ∀ b o, H2 b = some o → H' b = some o := fun b o h => kk b o (ne_of_none h nx) (sm b o h)
  exact ⟨rfl, o _ H' ((k1.trans k2).trans fun b u _ h => k3 b u h) (m.keep n2 H2 H' s2 fun a u _ h => k3 a u h) (.obj (eO.new nx) hx (rf.keep fun b u n h => ⟨h, fun z => n (old b z)⟩))⟩
end
end DL

set_option Elab.async false
set_option linter.all false
set_option maxRecDepth 100000
set_option maxHeartbeats 1000000
/-! DL33: == and != among instances of several own classes, one of which may be a subclass of another -/
namespace DL
open PySem L2
theorem OpR.or {X : Cx} {op : Value → Value → Sem Value} {r r' : R2} (a : OpR X op r) (b : OpR X op r') : OpR X op (fun x y H Q => r x y H Q ∨ r' x y H Q) := fun pins s σ H x y v u Q I rx ry h => h.elim (a pins s σ H x y v u Q I rx ry) (b pins s σ H x y v u Q I rx ry)
theorem OpD.or {r r' : R2} {rd rd' : RD} (a : OpD r rd) (b : OpD r' rd') : OpD (fun x y H Q => r x y H Q ∨ r' x y H Q) (fun x y K => rd x y K ∨ rd' x y K) where
  mono := fun x y K K' h q => q.elim (fun q => .inl (a.mono x y K K' h q)) fun q => .inr (b.mono x y K K' h q)
  run := fun m O H n v w x y Q gd old st r1 r2 q => q.elim (fun q => .inl (a.run m O H n v w x y Q gd old st r1 r2 q)) fun q => .inr (b.run m O H n v w x y Q gd old st r1 r2 q)
def OwnAny (S : Addr → Prop) (H : Hp) (y : V) : Prop := (∃ b D dy gs, y = V.ref b ∧ H b = some (.ins D dy gs) ∧ S D) ∨ ∃ T, KindV H y T
section
open PySem PySem.Spec PyProof.Rows
variable {X : Cx} {CX : CXT} {n : Nat} {C f : Addr} {fd : FuncData} {ps : List Str} {sp : Sp} {S : Addr → Prop} {pins : List (Addr × Obj)} {σ : L2.St} {H : Hp} {s : Shared}
theorem any_looks (hS : ∀ D, S D → PySem.W.notFirst X.K C (.ref D) = true) (I : Inv X pins σ H s) {y : V} {u : Value} (r : RelV y u) (h : OwnAny S H y) : ∃ tb, PySem.W.Looks (model X.prog X.w) s.heap (typeOf u) tb ∧ PySem.W.notFirst X.K C tb = true := by
  rcases h with ⟨b, D, dy, gs, rfl, hb, hD⟩ | ⟨T, k⟩
  · cases r
    obtain ⟨mB, J', _⟩ := ins_get I.hok hb
    obtain ⟨od', J', _⟩ := J'.look
    exact ⟨_, J'.type, hS D hD⟩
  · exact ⟨_, looks_is (kind_is I r k), by simp [PySem.W.notFirst, kind_sub k]⟩
/-- the own == called -/
theorem eq_called (F : FnOk X.prog X.w X.K X.mg X.base CX n f fd ps sp) {A : Around} (hr : Room n A) (e0 : Env0 X.prog X.w X.K X.mg X.base A X.stack s H) (hb : Binds X.K fd ps []) (hx : Passes CX X E0) {a : Addr} {y : V} {u : Value} {Q : VK} {g : Bool → Bool} (I : Inv X pins σ H s) (ry : RelV y u)
    (q : sp [.ref a, y] H (fun v H' => ∃ k : Bool, v = .bl k ∧ Q (.bl (g k)) H') E0) : wpAny (model X.prog X.w) A (call (.ref f) [.ref a, u]) (fun r s' => ∃ k, r = Value.bool k ∧ EP X pins σ Q (Value.bool (g k)) s') X.xe s := by
  have hl := F.len _ _ _ _ q
  refine wpAny_call (codeAny_mono (F.run A X.stack s H ⟨[.ref a, u], []⟩ [.ref a, u] [.ref a, y] _ E0 hr e0 (by
    have := hb s [.ref a, u] I.kIn (by simpa using hl)
    simpa using this) (.cons rfl (.cons ry .nil)) q) fun r s' hq => ?_)
  match r, hq with
  | .error e, hq => exact hx pins σ H s e s' I hq
  | .ok (.ret z), hq =>
    obtain ⟨v, H', I', rz, k, ev, q'⟩ := I.after hq
    subst ev
    cases (show z = Value.bool k from rz)
    exact ⟨k, rfl, .bl (g k), H', I', rfl, q'⟩
theorem eq_one (F : FnOk X.prog X.w X.K X.mg X.base CX n f fd ps sp) (hr : Room n X.A) (he : PySem.W.findIn X.K (.ref C) "__eq__" = some (some (.ref f))) (hf : PySem.W.isFn X.K (.ref f) = true) (hb : Binds X.K fd ps []) (hx : Passes CX X E0) {a dx : Addr} {fs : List (Str × V)} {y : V} {u : Value} {Q : VK}
    (I : Inv X pins σ H s) (ry : RelV y u) (ha : H a = some (.ins C dx fs)) (q : sp [.ref a, y] H (fun v H' => ∃ k : Bool, v = .bl k ∧ Q (.bl k) H') E0) :
    wpAny (model X.prog X.w) X.A (tryCompare (.ref a) "__eq__" u) (fun r s' => ∃ v, r = some v ∧ EP X pins σ Q v s') X.xe s := by
  obtain ⟨mA, J, _⟩ := ins_get I.hok ha
  obtain ⟨od, J, _⟩ := J.look
  unfold tryCompare
  refine wpAny_bind (PySem.W.ifBound_K I.kIn J he hf (wpAny_mono (eq_called (g := id) F hr I.env0 hb hx I ry q) (fun r s' hq => ?_) fun _ _ e => e))
  obtain ⟨k, rfl, hq⟩ := hq
  exact wpAny_pure ⟨_, rfl, hq⟩
theorem ne_one (F : FnOk X.prog X.w X.K X.mg X.base CX n f fd ps sp) (hr : Room (n + 3) X.A) (hs : PySem.W.findIn X.K (.ref C) "__ne__" = some (some (.builtin "object.__ne__"))) (he : PySem.W.findIn X.K (.ref C) "__eq__" = some (some (.ref f))) (hf : PySem.W.isFn X.K (.ref f) = true)
    (ho : PySem.W.mroIn X.K C (.type "object") = some true) (hb : Binds X.K fd ps []) (hx : Passes CX X E0) {a dx : Addr} {fs : List (Str × V)} {y : V} {u : Value} {Q : VK} (I : Inv X pins σ H s) (ry : RelV y u) (ha : H a = some (.ins C dx fs))
    (q : sp [.ref a, y] H (fun v H' => ∃ k : Bool, v = .bl k ∧ Q (.bl (!k)) H') E0) :
    wpAny (model X.prog X.w) X.A (tryCompare (.ref a) "__ne__" u) (fun r s' => ∃ v, r = some v ∧ EP X pins σ Q v s') X.xe s := by
  obtain ⟨mA, J, _⟩ := ins_get I.hok ha
  obtain ⟨od, J, _⟩ := J.look
  have KI := I.kIn
  have Z := PySem.F.cmp_object.ne
  have hu1 : X.A.in1.units < cLine := by
    have := hr.un
    show X.A.units + 1 < cLine
    omega
  have sub : PySem.W.Looks (model X.prog X.w) s.heap (isInstance (.ref a) (.type "object")) true := J.type.andThen (PySem.W.looks_mroIn KI ho)
  have body : wpAny (model X.prog X.w) X.A.in1 (Builtin.«object.__ne__» ⟨[.ref a, u], []⟩) (fun r s' => ∃ k, r = Fin.done (.ret (Value.bool (!k))) ∧ EP X pins σ Q (Value.bool (!k)) s') X.xe s := by
    unfold Builtin.«object.__ne__»
    refine wpAny_bind (wpAny_of_eq (a := (Value.ref a, [u])) rfl ?_)
    refine wpAny_bind (wpAny_cRoomFor hu1 ?_)
    refine wpAny_bind (PySem.W.ifBound_K KI J he hf (wpAny_mono (eq_called (g := fun k => !k) F (hr.in1.mono (by omega)) I.env0.in1 hb hx I ry q) (fun r s' hq => ?_) fun _ _ e => e))
    obtain ⟨k, rfl, hq⟩ := hq
    refine wpAny_bind (wpAny_truthy_bool ?_)
    exact wpAny_pure ⟨k, rfl, hq⟩
  have ne : wpAny (model X.prog X.w) X.A (call (.builtin "object.__ne__") [.ref a, u]) (fun r s' => ∃ k, r = Value.bool k ∧ EP X pins σ Q (Value.bool k) s') X.xe s := by
    refine wpAny_call (codeAny_call_builtin Z.plain PySem.F.cmpEntry_ne (@PySem.W.check_slot (model X.prog X.w) _ _ s "object.__ne__" "object" "__ne__" (.ref a) [u] [] _ PySem.F.cmpKind_ne PySem.F.cmpSplit_ne sub (PySem.F.cmpArgs_ne _ _) ?_))
    refine wpAny_mono body (fun r s' hq => ?_) fun _ _ e => e
    obtain ⟨k, rfl, hq⟩ := hq
    exact ⟨!k, rfl, hq⟩
  have bnd : wpAny (model X.prog X.w) X.A (callSpecialIfBound? (.ref a) "__ne__" [u]) (fun r s' => ∃ k, r = some (Value.bool k) ∧ EP X pins σ Q (Value.bool k) s') X.xe s := by
    simp only [callSpecialIfBound?, bindSpecialIfBound?]
    refine wpAny_holding (wpAny_bind (wpAny_bind (wpAny_bind (J.type.here ((PySem.W.looks_findIn KI hs).here ?_)))))
    refine wpAny_bind (wpAny_askSetting (wpAny_ite ?_))
    have fin : wpAny (model X.prog X.w) X.A (call (.builtin "object.__ne__") ([.ref a] ++ [u]) >>= fun v => pure (some v)) (fun r s' => ∃ k, r = some (Value.bool k) ∧ EP X pins σ Q (Value.bool k) s') X.xe s :=
      wpAny_bind (wpAny_mono ne (fun v s' hv => wpAny_pure (by obtain ⟨k, rfl, hq⟩ := hv; exact ⟨k, rfl, hq⟩)) fun _ _ e => e)
    split
    · simp only [Z.bind]
      exact wpAny_bind (wpAny_pure (wpAny_pure (by exact fin)))
    · simp only [Z.bind]
      exact wpAny_tryCatch (wpAny_bind (wpAny_pure (wpAny_pure (by exact fin))))
  unfold tryCompare
  refine wpAny_bind (wpAny_mono bnd (fun r s' hq => ?_) fun _ _ e => e)
  obtain ⟨k, rfl, hq⟩ := hq
  exact wpAny_pure ⟨_, rfl, hq⟩
/-- left first -/
theorem rc_left {op : CmpOp} {a dx : Addr} {fs : List (Str × V)} {u tb : Value} {Q : VK} (hu : X.A.units < cLine) (I : Inv X pins σ H s) (ha : H a = some (.ins C dx fs)) (L : PySem.W.Looks (model X.prog X.w) s.heap (typeOf u) tb) (nf : PySem.W.notFirst X.K C tb = true)
    (one : wpAny (model X.prog X.w) X.A (tryCompare (.ref a) (cmpInfo op).2.1 u) (fun r s' => ∃ v, r = some v ∧ EP X pins σ Q v s') X.xe s) : wpAny (model X.prog X.w) X.A (richCompare op (.ref a) u) (EP X pins σ Q) X.xe s := by
  obtain ⟨mA, J, _⟩ := ins_get I.hok ha
  obtain ⟨od, J, _⟩ := J.look
  unfold richCompare
  simp only [oneThing_ref]
  refine wpAny_holding (wpAny_bind (wpAny_cRoomFor hu ?_))
  refine wpAny_bind (J.type.here (wpAny_bind (L.here ?_)))
  split
  · rename_i qn
    have e : PySem.W.subIn X.K tb (.ref C) = some false := by
      rcases Bool.or_eq_true_iff.mp nf with e | e
      · rw [beq_iff_eq.mp e] at qn; simp at qn
      · exact beq_iff_eq.mp e
    refine wpAny_bind ((PySem.W.looks_subIn I.kIn e).here ?_)
    simp only [Bool.false_eq_true, if_false]
    refine wpAny_bind (wpAny_mono one (fun r s' z => ?_) fun _ _ e => e)
    obtain ⟨v, rfl, hq⟩ := z
    exact wpAny_pure hq
  · refine wpAny_bind (wpAny_pure ?_)
    simp only [Bool.false_eq_true, if_false]
    refine wpAny_bind (wpAny_mono one (fun r s' z => ?_) fun _ _ e => e)
    obtain ⟨v, rfl, hq⟩ := z
    exact wpAny_pure hq
/-- the right one is of a subclass: it comes first -/
theorem rc_right {op : CmpOp} {D a b dx dy : Addr} {fs gs : List (Str × V)} {Q : VK} (hu : X.A.units < cLine) (I : Inv X pins σ H s) (ha : H a = some (.ins C dx fs)) (hb : H b = some (.ins D dy gs)) (ne : C ≠ D) (hs : PySem.W.subIn X.K (.ref D) (.ref C) = some true)
    (one : wpAny (model X.prog X.w) X.A (tryCompare (.ref b) (cmpInfo op).2.2 (.ref a)) (fun r s' => ∃ v, r = some v ∧ EP X pins σ Q v s') X.xe s) : wpAny (model X.prog X.w) X.A (richCompare op (.ref a) (.ref b)) (EP X pins σ Q) X.xe s := by
  obtain ⟨mA, J, _⟩ := ins_get I.hok ha
  obtain ⟨od, J, _⟩ := J.look
  obtain ⟨mB, J', _⟩ := ins_get I.hok hb
  obtain ⟨od', J', _⟩ := J'.look
  unfold richCompare
  simp only [oneThing_ref]
  refine wpAny_holding (wpAny_bind (wpAny_cRoomFor hu ?_))
  refine wpAny_bind (J.type.here (wpAny_bind (J'.type.here ?_)))
  rw [if_pos (show (Value.ref C != Value.ref D) = true by simpa using ne)]
  refine wpAny_bind ((PySem.W.looks_subIn I.kIn hs).here ?_)
  simp only [if_true]
  refine wpAny_bind (wpAny_mono one (fun r s' z => ?_) fun _ _ e => e)
  obtain ⟨v, rfl, hq⟩ := z
  exact wpAny_bind (wpAny_rule (wpAny_pure hq))
end
section
open PySem PySem.Spec PyProof.Rows
variable {X : Cx} {CX : CXT} {n : Nat} {C f : Addr} {fd : FuncData} {ps : List Str} {sp : Sp} {S : Addr → Prop}
def rEqS (C : Addr) (S : Addr → Prop) (g : Bool → Bool) (sp : Sp) : R2 := fun x y H Q => ∃ a dx fs, x = V.ref a ∧ H a = some (.ins C dx fs) ∧ OwnAny S H y ∧ sp [.ref a, y] H (fun v H' => ∃ k : Bool, v = .bl k ∧ Q (.bl (g k)) H') E0
def rEqF (D : Addr) (S : Addr → Prop) (g : Bool → Bool) (sp : Sp) : R2 := fun x y H Q => ∃ C a dx fs b dy gs, x = V.ref a ∧ H a = some (.ins C dx fs) ∧ S C ∧ y = V.ref b ∧ H b = some (.ins D dy gs) ∧ sp [.ref b, .ref a] H (fun v H' => ∃ k : Bool, v = .bl k ∧ Q (.bl (g k)) H') E0
theorem op_eqS (F : FnOk X.prog X.w X.K X.mg X.base CX n f fd ps sp) (hr : Room n X.A) (hS : ∀ D, S D → PySem.W.notFirst X.K C (.ref D) = true) (he : PySem.W.findIn X.K (.ref C) "__eq__" = some (some (.ref f))) (hf : PySem.W.isFn X.K (.ref f) = true) (hb : Binds X.K fd ps []) (hx : Passes CX X E0) : OpR X (compareOp .Eq) (rEqS C S id sp) := by
  intro pins s σ H x y v u Q I rx ry ⟨a, dx, fs, ex, ha, hy, q⟩
  subst ex
  cases rx
  obtain ⟨tb, L, nf⟩ := any_looks hS I ry hy
  exact rc_left (op := .Eq) (by have := hr.un; omega) I ha L nf (eq_one F hr he hf hb hx I ry ha q)
theorem op_neS (F : FnOk X.prog X.w X.K X.mg X.base CX n f fd ps sp) (hr : Room (n + 3) X.A) (hS : ∀ D, S D → PySem.W.notFirst X.K C (.ref D) = true) (hs : PySem.W.findIn X.K (.ref C) "__ne__" = some (some (.builtin "object.__ne__"))) (he : PySem.W.findIn X.K (.ref C) "__eq__" = some (some (.ref f))) (hf : PySem.W.isFn X.K (.ref f) = true)
    (ho : PySem.W.mroIn X.K C (.type "object") = some true) (hb : Binds X.K fd ps []) (hx : Passes CX X E0) : OpR X (compareOp .NotEq) (rEqS C S (fun k => !k) sp) := by
  intro pins s σ H x y v u Q I rx ry ⟨a, dx, fs, ex, ha, hy, q⟩
  subst ex
  cases rx
  obtain ⟨tb, L, nf⟩ := any_looks hS I ry hy
  exact rc_left (op := .NotEq) (by have := hr.un; omega) I ha L nf (ne_one F hr hs he hf ho hb hx I ry ha q)
theorem op_eqF (F : FnOk X.prog X.w X.K X.mg X.base CX n f fd ps sp) (hr : Room n X.A) (hS : ∀ D, S D → D ≠ C ∧ PySem.W.subIn X.K (.ref C) (.ref D) = some true) (he : PySem.W.findIn X.K (.ref C) "__eq__" = some (some (.ref f))) (hf : PySem.W.isFn X.K (.ref f) = true) (hb : Binds X.K fd ps []) (hx : Passes CX X E0) : OpR X (compareOp .Eq) (rEqF C S id sp) := by
  intro pins s σ H x y v u Q I rx ry ⟨D, a, dx, fs, b, dy, gs, ex, ha, hD, ey, hb', q⟩
  subst ex; subst ey
  cases rx; cases ry
  exact rc_right (op := .Eq) (by have := hr.un; omega) I ha hb' (hS D hD).1 (hS D hD).2 (eq_one (y := V.ref a) F hr he hf hb hx I rfl hb' q)
theorem op_neF (F : FnOk X.prog X.w X.K X.mg X.base CX n f fd ps sp) (hr : Room (n + 3) X.A) (hS : ∀ D, S D → D ≠ C ∧ PySem.W.subIn X.K (.ref C) (.ref D) = some true) (hs : PySem.W.findIn X.K (.ref C) "__ne__" = some (some (.builtin "object.__ne__"))) (he : PySem.W.findIn X.K (.ref C) "__eq__" = some (some (.ref f))) (hf : PySem.W.isFn X.K (.ref f) = true)
    (ho : PySem.W.mroIn X.K C (.type "object") = some true) (hb : Binds X.K fd ps []) (hx : Passes CX X E0) : OpR X (compareOp .NotEq) (rEqF C S (fun k => !k) sp) := by
  intro pins s σ H x y v u Q I rx ry ⟨D, a, dx, fs, b, dy, gs, ex, ha, hD, ey, hb', q⟩
  subst ex; subst ey
  cases rx; cases ry
  exact rc_right (op := .NotEq) (by have := hr.un; omega) I ha hb' (hS D hD).1 (hS D hD).2 (ne_one (y := V.ref a) F hr hs he hf ho hb hx I rfl hb' q)
end
/-! ### over data -/
def anyD (S : Addr → Prop) (y : D) : Prop := (∃ D l, y = .obj D l ∧ S D) ∨ kindD y = true
theorem any_of {S : Addr → Prop} {O : Addr → Prop} {H : Hp} {v : V} {d : D} (r : R O H v d) (h : anyD S d) : OwnAny S H v := by
  rcases h with ⟨D, l, e, hS⟩ | h
  · subst e
    cases id r with
    | obj n0 h0 s0 => exact .inl ⟨_, D, _, _, rfl, h0, hS⟩
  · exact .inr (kind_of r h)
def dEqSD (C : Addr) (S : Addr → Prop) (g : Bool → Bool) (T : CD) : RD := fun x y K => ∃ l, x = .obj C l ∧ anyD S y ∧ T [x, y] fun d => ∃ k, d = .bl k ∧ K (.bl (g k))
def dEqFD (D : Addr) (S : Addr → Prop) (g : Bool → Bool) (T : CD) : RD := fun x y K => ∃ C l l', x = .obj C l ∧ S C ∧ y = .obj D l' ∧ T [y, x] fun d => ∃ k, d = .bl k ∧ K (.bl (g k))
theorem o_eqSD {C : Addr} {S : Addr → Prop} {g : Bool → Bool} {T : CD} (hm : CMono T) : OpD (rEqS C S g (spP T)) (dEqSD C S g T) where
  mono := fun x y K K' h ⟨l, a, b, k⟩ => ⟨l, a, b, hm _ _ _ (fun d ⟨i, e, k⟩ => ⟨i, e, h _ k⟩) k⟩
  run := fun m O H n v w x y Q gd old st r1 r2 ⟨l, a, b, k⟩ => by
    subst a
    cases id r1 with
    | obj n0 h0 s0 =>
      refine ⟨_, _, _, rfl, h0, any_of r2 b, [.obj C l, y], O, .cons r1 (.cons r2 .nil), old, hm _ _ _ (fun d ⟨i, e, k⟩ => ?_) k⟩
      intro v' H' sm rv
      subst e
      cases rv
      exact ⟨i, rfl, k _ H' (fun b o _ e => sm b o e) (m.keep n H H' st fun a o _ e => sm a o e) (.bl _)⟩
theorem o_eqFD {C : Addr} {S : Addr → Prop} {g : Bool → Bool} {T : CD} (hm : CMono T) : OpD (rEqF C S g (spP T)) (dEqFD C S g T) where
  mono := fun x y K K' h ⟨D, l, l', a, b, c, k⟩ => ⟨D, l, l', a, b, c, hm _ _ _ (fun d ⟨i, e, k⟩ => ⟨i, e, h _ k⟩) k⟩
  run := fun m O H n v w x y Q gd old st r1 r2 ⟨D, l, l', a, b, c, k⟩ => by
    subst a; subst c
    cases id r1 with
    | obj n0 h0 s0 =>
      cases id r2 with
      | obj n1 h1 s1 =>
        refine ⟨D, _, _, _, _, _, _, rfl, h0, b, rfl, h1, [.obj C l', .obj D l], O, .cons r2 (.cons r1 .nil), old, hm _ _ _ (fun d ⟨i, e, k⟩ => ?_) k⟩
        intro v' H' sm rv
        subst e
        cases rv
        exact ⟨i, rfl, k _ H' (fun b o _ e => sm b o e) (m.keep n H H' st fun a o _ e => sm a o e) (.bl _)⟩
/-! ### isinstance of an instance of any own class; a field of an instance of one of several classes -/
def cIsiF (KK : PySem.W.Frag) : CD := fun xs K => ∃ D l C b, xs = [.obj D l, .ptr C] ∧ OwnC KK D ∧ PySem.W.kitOne KK (.ref D) (.ref C) = some b ∧ K (.bl b)
theorem k_isiF {KK : PySem.W.Frag} : CallD (rIsi KK) (cIsiF KK) where
  mono := fun xs K K' h ⟨D, l, C, b, a, c, e, k⟩ => ⟨D, l, C, b, a, c, e, h _ k⟩
  run := fun m O H n vs xs Q gd old st r ⟨D, l, C, b, a, c, e, k⟩ => by
    subst a
    cases r with
    | cons r1 r2 =>
      cases r2 with
      | cons r2 r3 =>
        cases r3
        cases r2
        cases id r1 with
        | obj n0 h0 s0 => exact ⟨_, _, _, _, b, rfl, .own C, .base (.ins h0 c.cl c.ha c.hn c.ht c.ho), e, k _ H KX.refl st (.bl _)⟩
/-- of any data -/
def cIsiA (KK : PySem.W.Frag) : CD := fun xs K => cIsiF KK xs K ∨ ∃ x C, xs = [x, .ptr C] ∧ OwnC KK C ∧ kindD x = true ∧ K (.bl false)
theorem k_isiA {KK : PySem.W.Frag} : CallD (rIsi KK) (cIsiA KK) where
  mono := fun xs K K' h q => q.elim (fun q => .inl (k_isiF.mono _ _ _ h q)) fun ⟨x, C, a, c, b, k⟩ => .inr ⟨x, C, a, c, b, h _ k⟩
  run := fun m O H n vs xs Q gd old st r q => q.elim (fun q => k_isiF.run m O H n vs xs Q gd old st r q) fun ⟨x, C, a, c, b, k⟩ => by
    subst a
    cases r with
    | cons r1 r2 =>
      cases r2 with
      | cons r2 r3 =>
        cases r3
        cases r2
        obtain ⟨T, kv⟩ := kind_of r1 b
        exact ⟨_, _, _, _, false, rfl, .own C, kind_ty kv, c.kit kv, k _ H KX.refl st (.bl _)⟩
/-- one of two own classes -/
def cIsiF2 (KK : PySem.W.Frag) : CD := fun xs K => ∃ D l C1 C2 b, xs = [.obj D l, .tup [.ptr C1, .ptr C2]] ∧ OwnC KK D ∧ PySem.W.kitAny KK (.ref D) [.ref C1, .ref C2] = some b ∧ K (.bl b)
theorem k_isiF2 {KK : PySem.W.Frag} : CallD (rIsiT KK) (cIsiF2 KK) where
  mono := fun xs K K' h ⟨D, l, C1, C2, b, a, c, e, k⟩ => ⟨D, l, C1, C2, b, a, c, e, h _ k⟩
  run := fun m O H n vs xs Q gd old st r ⟨D, l, C1, C2, b, a, c, e, k⟩ => by
    subst a
    cases r with
    | cons r1 r2 =>
      cases r2 with
      | cons r2 r3 =>
        cases r3
        cases id r1 with
        | obj n0 h0 s0 =>
          cases id r2 with
          | tup n1 h1 s1 =>
            cases s1 with
            | cons q1 q2 =>
              cases q2 with
              | cons q2 q3 =>
                cases q3
                cases q1; cases q2
                exact ⟨_, _, _, _, _, b, rfl, h1, .cons (.own C1) (.cons (.own C2) .nil), .base (.ins h0 c.cl c.ha c.hn c.ht c.ho), e, k _ H KX.refl st (.bl _)⟩
def tFldU (S : Addr → Prop) (f : Str) (Ta : TD) : TD := fun env n K => Ta env n fun d n1 => ∃ C l v, d = .obj C l ∧ S C ∧ l.lookup f = some v ∧ K v n1
theorem v_fldU {X : Cx} {m : Md} {S : Addr → Prop} {f : Str} {o : Expr} {Ta : TD} {pos : Pos} (a : EV X m o Ta) (hS : ∀ C, S C → Cls X.K C ∧ NoAttr X.K C f) (hab : attributeBase o f X.env (eval o X.env) = eval o X.env := by rfl) : EV X m (.Attribute o f pos) (tFldU S f Ta) := by
  obtain ⟨ta, po, ho⟩ := a.ex
  refine ⟨fun env n K K' hk q => a.mono _ _ _ _ (fun d n1 ⟨C, l, v, e1, e0, e2, q⟩ => ⟨C, l, v, e1, e0, e2, hk _ _ q⟩) q, _, pe_fld po hab, fun O σ H env n Q e s q => ?_⟩
  refine ho O σ H env n _ e s (a.mono _ _ _ _ (fun d n1 ⟨C, l, v, e1, e0, e2, q⟩ => ?_) q)
  intro w H1 k1 s1 r1
  subst e1
  cases id r1 with
  | obj n0 h0 s0 =>
    obtain ⟨v', h1, h2⟩ := s0.look e2
    exact ⟨_, C, _, _, v', rfl, h0, (hS C e0).1, (hS C e0).2, h1, out_trans k1 q v' H1 KX.refl s1 h2⟩
end DL

set_option Elab.async false
set_option linter.all false
set_option maxRecDepth 100000
set_option maxHeartbeats 1000000
/-! DL34: __init__ over data: self.f = e; instances made; results without lists from what one owns; a class value -/
namespace DL
open PySem L2
theorem putF_new {f : Str} {v : V} : ∀ {fs : List (Str × V)}, fs.lookup f = none → putF f v fs = fs ++ [(f, v)]
  | [], _ => rfl
  | (g, x) :: r, h => by
    rw [List.lookup_cons] at h
    cases q : f == g with
    | true => rw [q] at h; cases h
    | false =>
      rw [q] at h
      have ne : ¬ g = f := fun z => by rw [z] at q; simp at q
      show (if g = f then (g, v) :: r else (g, x) :: putF f v r) = _
      rw [if_neg ne, putF_new h]; rfl
theorem Rf.append {O : Addr → Prop} {H : Hp} : ∀ {xs ys : List (Str × V)} {ds es : List (Str × D)}, Rf O H xs ds → Rf O H ys es → Rf O H (xs ++ ys) (ds ++ es)
  | _, _, _, _, .nil, s => s
  | _, _, _, _, .cons h r, s => .cons h (Rf.append r s)
section
variable {X : Cx} {m : Md}
def sFldD (i : Nat) (f : Str) (K : PySem.W.Frag) (T : TD) : TDS := fun Z env n => T env n fun d n1 => ∃ C dx l, env[i]? = some (.own (.self C dx l)) ∧ Cls K C ∧ NoAttr K C f ∧ l.lookup f = none ∧ l.length < 1000 ∧ Z.nx (env.set i (.own (.self C dx (l ++ [(f, d)])))) n1
theorem rf_len {O : Addr → Prop} {H : Hp} : ∀ {xs : List (Str × V)} {ds : List (Str × D)}, Rf O H xs ds → xs.length = ds.length
  | _, _, .nil => rfl
  | _, _, .cons _ r => by rw [List.length_cons, List.length_cons, rf_len r]
theorem s_fld {o e : Expr} {f : Str} {pos pos' : Pos} {i : Nat} {T : TD} (po : PE X o (tVar i)) (a : EV X m e T) (hs : swapsWith e (some (.Attribute o f pos')) pos.line X.env = pure false := by rfl) : SV X m (.Assign [.Attribute o f pos'] e pos) (sFldD i f X.K T) := by
  obtain ⟨t, p, h⟩ := a.ex
  refine ⟨_, ps_fld po p hs, fun F σ H env n Z E e s z q => ?_⟩
  refine h _ σ H env n _ e.ee s (a.mono _ _ _ _ (fun d n1 ⟨C, dx, l, h0, c, na, hl, hz, q⟩ => ?_) q)
  intro v H1 k1 s1 r1
  have e1 := e.kx k1 s1
  obtain ⟨b, g1, ⟨fs, g2, gd, nd, g5⟩, g3, g4⟩ := e1.ee.own i _ h0
  have ne : dx ≠ b := fun z => by rw [z, g2] at gd; cases gd
  refine ⟨_, g1, b, C, dx, fs, rfl, g2, c, na, by rw [rf_len g5]; exact hz, ?_⟩
  refine z.nx _ _ _ _ (e1.put (w' := .self C dx (l ++ [(f, d)])) h0 g1 ⟨putF f v fs, upd_same, by rw [upd_ne ne]; exact gd, nd, ?_⟩) (st_put s1 g4 (fun f z => by rw [g2] at z; cases z)) q
  rw [putF_new (g5.none hl)]
  exact (g5.append (.cons r1 .nil)).keep fun c o n q => ⟨by rw [upd_ne (fun z => n (.inr (by rw [z]; exact ⟨i, _, h0, g1⟩)))]; exact q, n⟩
end
/-! ### __init__ -/
abbrev TI := List D → (List (Str × D) → Prop) → Prop
def spJ (C : Addr) (T : TI) : Sp := fun vs H Q _ => ∃ (x dx : Addr) (ws : List V) (ds : List D) (O : Addr → Prop), vs = .ref x :: ws ∧ H x = some (.ins C dx []) ∧ H dx = some (.own x) ∧ ¬ O x ∧ ¬ O dx ∧ (∀ a, O a → H a ≠ none) ∧ Rs (fun a => O a ∨ a = x) H ws ds ∧
  T ds (fun fs => ∀ H' vfs, (∀ b o, b ≠ x → H b = some o → H' b = some o) → H' x = some (.ins C dx vfs) → Rf (fun a => O a ∨ a = x) H' vfs fs → Q .non H')
def selfE (C dx : Addr) (N : List Str) (ds : List D) : Sls := (startE N (.non :: ds)).set 0 (.own (.self C dx []))
def Zini (C dx : Addr) (K : List (Str × D) → Prop) : EndD := ⟨fun env _ => ∃ l, env[0]? = some (.own (.self C dx l)) ∧ K l, fun _ _ => False, fun _ _ => False, fun _ _ => False⟩
section
variable {P : Program} {w : World} {K : PySem.W.Frag} {mg : Str → Option Value} {base : Heap}
theorem fn_okJ {x qual : Str} {params : Arguments} {body : List Stmt} {scope : Scope} {dvs : List V} {kws : List (Str × V)} {f : Addr} {fd : FuncData} {N ps : List Str} {k : Nat} {C : Addr} {T : TI} (Fn : FunD K x qual params body scope dvs kws f fd) (S : FnScope N ps scope) (len : ∀ ds K, T ds K → ds.length + 1 = ps.length) (hN : 0 < N.length)
    (hb : ∀ (cdv : Value) (A : Around) (outer : List Env) (s : Shared) (H : Hp) (E : XK), Room k (A.deeper (PyProof.Rows.envOfC qual scope s.heap.objs.size f cdv)) → ∃ TS : TDS, SsV (cxOf CX0 P w K mg base N qual scope f cdv A outer s H E).nox noMd body TS ∧ ∀ dx ds K, T ds K → TS (Zini C dx K) (selfE C dx N ds) 0) :
    FnOk P w K mg base CX0 (k + 1) f fd ps (spJ C T) := by
  obtain ⟨oc, od, dV, kV, doc, pm, an, cdv, ct, osl, rfl, lk, hcd, _, _⟩ := Fn.ex
  refine fn_of lk hcd S (fun vs H Q E h => ?_) fun A outer s H vs Q E hr h => ?_
  · obtain ⟨x, dx, ws, ds, O, e, _, _, _, _, _, r, t⟩ := h
    rw [e, List.length_cons, r.length]
    exact len _ _ t
  · obtain ⟨x, dx, ws, ds, O, e, hx, hdx, nx, ndx, old, r, t⟩ := h
    subst e
    obtain ⟨TS, ⟨u, p, hz⟩, ht⟩ := hb cdv A outer s H E hr
    have nn : ∀ {b : Addr} {o : HO}, H b = some o → H b ≠ none := fun h => by rw [h]; exact fun z => by cases z
    have l0 : 0 < (startE N (.non :: ds)).length := by
      unfold startE
      rw [List.length_append, List.length_map, List.length_cons]
      omega
    have l1 : (L2.start N (.ref x :: ws)).length = (startE N (.non :: ds)).length := by
      unfold L2.start startE
      rw [List.length_append, List.length_append, List.length_map, List.length_map, List.length_replicate, List.length_replicate, List.length_cons, List.length_cons, r.length]
    have s0 : (L2.start N (.ref x :: ws))[0]? = some (some (.ref x)) := rfl
    have own0 : (selfE C dx N ds)[0]? = some (.own (.self C dx [])) := List.getElem?_set_self l0
    have only : ∀ {i : Nat} {w : OwnS}, (selfE C dx N ds)[i]? = some (.own w) → i = 0 ∧ w = .self C dx [] := fun {i w} h => by
      rcases own_get h l0 with ⟨a, b⟩ | ⟨a, b⟩
      · cases b; exact ⟨a, rfl⟩
      · exact (start_own b).elim
    have ownx : ∀ {a : Addr}, ownA (selfE C dx N ds) (L2.start N (.ref x :: ws)) a → a = x := fun {a} ⟨i, w, h1, h2⟩ => by
      obtain ⟨e, _⟩ := only h1
      subst e
      rw [s0] at h2
      cases h2; rfl
    have eo : EO0 noMd ⟨H, fun a => H a ≠ none ∧ a ≠ x, O⟩ (L2.start N (.ref x :: ws)) H (selfE C dx N ds) := by
      refine ⟨⟨?_, fun a z => False.elim z, fun a h => ?_, fun i d q => ?_, fun i w q => ?_⟩, fun a z => False.elim z, fun a h => ⟨old a h, fun z => nx (z ▸ h)⟩, fun a h => h.1, fun b o _ _ h => h, fun a h z => z.2 (ownx h), fun i j w1 w2 a h1 h2 _ _ => by rw [(only h1).1, (only h2).1]⟩
      · rw [l1]; unfold selfE; rw [List.length_set]
      · rcases h with h | h
        · exact old a h
        · rw [ownx h, hx]; exact fun z => by cases z
      · rcases own_get q l0 with ⟨_, b⟩ | ⟨a, b⟩
        · cases b
        · obtain ⟨v, h1, h2⟩ := rs_start (N := N) (vs := .non :: ws) (.cons .non r) b
          refine ⟨v, ?_, h2.keep fun b o n q => ⟨q, fun z => n ((show O b ∨ _ from z).elim .inl fun z => .inr (ownx z))⟩⟩
          cases i with
          | zero => exact absurd rfl a
          | succ i => exact h1
      · obtain ⟨e, e2⟩ := only q
        subst e; subst e2
        exact ⟨x, s0, ⟨[], hx, hdx, (fun z => (show _ ∨ _ from z).elim ndx fun z => by rw [ownx z, hx] at hdx; cases hdx), .nil⟩, .inr ⟨0, _, own0, s0⟩, fun z => z⟩
    refine ⟨u, p.nox, hz ⟨H, fun a => H a ≠ none ∧ a ≠ x, O⟩ _ H _ 0 (Zini C dx _) _ ⟨eo, fun _ _ _ _ _ _ _ _ _ _ _ _ _ z => False.elim z⟩ trivial ⟨fun σ H' env n' e' s' ⟨l, q1, q2⟩ => ?_, fun v H' d n' k' s' r' q => False.elim q, fun σ H' env n' _ _ q => False.elim q, fun σ H' env n' _ _ q => False.elim q⟩ (ht dx ds _ t)⟩
    obtain ⟨a, h1, ⟨fs, g2, gd, nd, g5⟩, g3, g4⟩ := e'.ee.own 0 _ q1
    have kd := e'.kp dx _ ⟨by rw [hdx]; exact fun z => (by cases z), fun z => by rw [z, hx] at hdx; cases hdx⟩ (fun z => z) hdx
    rw [kd] at gd
    cases gd
    refine q2 H' fs (fun b o nb h => e'.kp b o ⟨by rw [h]; exact fun z => (by cases z), nb⟩ (fun z => z) h) g2 (g5.keep fun b o n q => ⟨q, fun z => n ((show O b ∨ _ from z).elim .inl fun z => ?_)⟩)
    subst z
    exact .inr ⟨0, _, q1, h1⟩
end
section
open PySem.Spec PyProof.Rows
variable {X : Cx} {m : Md}
theorem make_qJ {C : Addr} {T : TI} {O : Addr → Prop} {σ : L2.St} {H H1 : Hp} {env : Sls} {n1 : Nat} {vs : List V} {xs : List D} {Q : VK} {E : XK} (hm : ∀ ds K K', (∀ fs, K fs → K' fs) → T ds K → T ds K') (e : EE m O σ H1 env) (k : KX m.d H H1) (s : m.St n1 H1) (r : Rs O H1 vs xs)
    (q : T xs fun fs => Out m O H Q (.obj C fs) n1) : ∀ x dx, H1 x = none → H1 dx = none → dx ≠ x → spJ C T (.ref x :: vs) (upd (upd H1 dx (.own x)) x (.ins C dx [])) (fun v H2 => v = .non ∧ Q (.ref x) H2) E := by
  intro x dx nx ndx ne
  have sm : ∀ b o, H1 b = some o → (upd (upd H1 dx (.own x)) x (.ins C dx [])) b = some o := fun b o h => by rw [upd_ne (ne_of_none h nx), upd_ne (ne_of_none h ndx)]; exact h
  refine ⟨x, dx, vs, xs, O, rfl, upd_same, by rw [upd_ne ne, upd_same], e.new nx, e.new ndx, fun a ha => ?_, r.keep fun b o n h => ⟨sm b o h, fun z => z.elim n (ne_of_none h nx)⟩, hm _ _ _ (fun fs o => ?_) q⟩
  · cases z : H1 a with
    | none => exact absurd z (e.old a ha)
    | some o => rw [sm a o z]; exact fun z => by cases z
  · intro H' vfs kk hx rf
    have k3 : ∀ b o, H1 b = some o → H' b = some o := fun b o h => kk b o (ne_of_none h nx) (sm b o h)
    exact ⟨rfl, o _ H' (k.trans fun b u _ h => k3 b u h) (m.keep n1 H1 H' s fun a u _ h => k3 a u h) (.obj (e.new nx) hx (rf.keep fun b u n h => ⟨h, fun z => n (.inl z)⟩))⟩
theorem v_makeJ {C : Addr} {k : Nat} {f : Addr} {fd : FuncData} {ps : List Str} {T : TI} {ds : List Value} {dvs : List V} {dd : List D} {x : Str} {p pos : Pos} {e : Expr} {es : List Expr} {Ts : TDs} (M : Mk X.K C f) (F : FnOk X.prog X.w X.K X.mg X.base CX0 k f fd ps (spJ C T)) (hm : ∀ ds K K', (∀ fs, K fs → K' fs) → T ds K → T ds K') (hr : Room (k + 1) X.A) (hg : Gl X x) (hmg : X.mg x = some (.ref C)) (hb : Binds X.K fd ps ds) (hd : Vals dvs ds) (rd : ∀ O H, Rs O H dvs dd) (a : AV X m (e :: es) Ts)
    (hdb : (x == ("__debug__" : Str)) = false := by decide) (he : starEach (e :: es) X.env = (false, eval e X.env) :: starEach es X.env := by rfl) (hpl : (backTo pos (starEach es X.env)).any (·.1) = false := by rfl) : EV X m (.Call (.Name x p) (e :: es) [] pos) (fun env n K => Ts env n fun xs n1 => T (xs ++ dd) fun fs => K (.obj C fs) n1) := by
  obtain ⟨t, pa, h⟩ := a.ex
  refine ⟨fun env n K K' hk q => a.mono _ _ _ _ (fun xs n1 q => hm _ _ _ (fun fs z => hk _ _ z) q) q, _, pe_make M F hr hg hmg hb hd pass0 pa hdb he hpl, fun O σ H env n Q e s q => ?_⟩
  refine h O σ H env n _ e s (a.mono _ _ _ _ (fun xs n1 q => ?_) q)
  intro vs H1 k1 s1 r1
  exact make_qJ hm (e.kx k1 s1) k1 s1 (r1.append (rd _ _)) q
/-! a class value -/
def tCValD (i : Int) : TD := fun _ n K => K (.int i) n
theorem v_cval {C : Addr} {mc : Value} {f : Str} {i : Int} {u : Value} {e : Expr} {pos : Pos} {Ta : TD} (a : EV X m e Ta) (r : ClX.CRead X.K C mc) (c : ClX.CVal X.K C mc f (.int i) u) (hb : attributeBase e f X.env (eval e X.env) = eval e X.env := by rfl) : EV X m (.Attribute e f pos) (fun env n K => Ta env n fun d n1 => d = .ptr C ∧ K (.int i) n1) := by
  obtain ⟨t, p, h⟩ := a.ex
  refine ⟨fun env n K K' hk q => a.mono _ _ _ _ (fun d n1 ⟨e, q⟩ => ⟨e, hk _ _ q⟩) q, _, ClX.pe_cval p hb, fun O σ H env n Q e s q => ?_⟩
  refine h O σ H env n _ e s (a.mono _ _ _ _ (fun d n1 ⟨ed, q⟩ => ?_) q)
  intro v H1 k1 s1 r1
  subst ed
  cases r1
  exact ⟨C, mc, _, u, rfl, r, c, q _ H1 k1 s1 (.int i)⟩
/-! what has no list is none of one's own lists -/
mutual
def noLst : D → Bool
  | .lst _ => false
  | .tup l => noLsts l
  | .dic l => noLstk l
  | .obj _ l => noLstf l
  | .exc _ _ _ l => noLstf l
  | .exv _ l => noLstf l
  | .exn _ => true
  | _ => true
def noLsts : List D → Bool
  | [] => true
  | x :: r => noLst x && noLsts r
def noLstk : List (Key × D) → Bool
  | [] => true
  | (_, x) :: r => noLst x && noLstk r
def noLstf : List (Str × D) → Bool
  | [] => true
  | (_, x) :: r => noLst x && noLstf r
end
section
variable {O O' : Addr → Prop} {H : Hp}
mutual
theorem R.more (K : ∀ b, O' b → O b ∨ ∃ xs, H b = some (.lst xs)) : ∀ {v : V} {x : D}, R O H v x → noLst x = true → R O' H v x
  | _, _, .non, _ => .non
  | _, _, .bl b, _ => .bl b
  | _, _, .int i, _ => .int i
  | _, _, .str x, _ => .str x
  | _, _, .ptr a, _ => .ptr a
  | _, _, .ty s, _ => .ty s
  | _, _, .lst n h r, z => by rw [noLst] at z; cases z
  | _, _, .tup n h r, z => .tup (fun q => (K _ q).elim n fun ⟨xs, e⟩ => by rw [h] at e; cases e) h (Rs.more K r (by rw [noLst] at z; exact z))
  | _, _, .dic n h r, z => .dic (fun q => (K _ q).elim n fun ⟨xs, e⟩ => by rw [h] at e; cases e) h (Rk.more K r (by rw [noLst] at z; exact z))
  | _, _, .obj n h r, z => .obj (fun q => (K _ q).elim n fun ⟨xs, e⟩ => by rw [h] at e; cases e) h (Rf.more K r (by rw [noLst] at z; exact z))
  | _, _, .exc n h r, z => .exc (fun q => (K _ q).elim n fun ⟨xs, e⟩ => by rw [h] at e; cases e) h (Rf.more K r (by rw [noLst] at z; exact z))
  | _, _, .exv n h n2 h2 r, z => .exv (fun q => (K _ q).elim n fun ⟨xs, e⟩ => by rw [h] at e; unfold exo at e; cases e) h (fun q => (K _ q).elim n2 fun ⟨xs, e⟩ => by rw [h2] at e; unfold exd at e; cases e) h2 (Rf.more K r (by rw [noLst] at z; exact z))
  | _, _, .exn n h, _ => .exn (fun q => (K _ q).elim n fun ⟨xs, e⟩ => by rw [h] at e; unfold exo at e; cases e) h
theorem Rs.more (K : ∀ b, O' b → O b ∨ ∃ xs, H b = some (.lst xs)) : ∀ {v : List V} {x : List D}, Rs O H v x → noLsts x = true → Rs O' H v x
  | _, _, .nil, _ => .nil
  | _, _, .cons h r, z => by rw [noLsts, Bool.and_eq_true] at z; exact .cons (R.more K h z.1) (Rs.more K r z.2)
theorem Rk.more (K : ∀ b, O' b → O b ∨ ∃ xs, H b = some (.lst xs)) : ∀ {v : List (Key × V)} {x : List (Key × D)}, Rk O H v x → noLstk x = true → Rk O' H v x
  | _, _, .nil, _ => .nil
  | _, _, .cons h r, z => by rw [noLstk, Bool.and_eq_true] at z; exact .cons (R.more K h z.1) (Rk.more K r z.2)
theorem Rf.more (K : ∀ b, O' b → O b ∨ ∃ xs, H b = some (.lst xs)) : ∀ {v : List (Str × V)} {x : List (Str × D)}, Rf O H v x → noLstf x = true → Rf O' H v x
  | _, _, .nil, _ => .nil
  | _, _, .cons h r, z => by rw [noLstf, Bool.and_eq_true] at z; exact .cons (R.more K h z.1) (Rf.more K r z.2)
end
end
theorem v_peekL {e : Expr} {T : TD} (h : EV X m.nox e T) : EV X m e (fun env n K => (∀ (i : Nat) (w : OwnS), env[i]? = some (Sl.own w) → ∃ ds, w = OwnS.lst ds) ∧ T (peek env) n fun d n1 => noLst d = true ∧ K d n1) := by
  obtain ⟨t, p, hz⟩ := h.ex
  refine ⟨fun env n K K' hk ⟨a, z⟩ => ⟨a, h.mono _ _ _ _ (fun d n1 z => ⟨z.1, hk _ _ z.2⟩) z⟩, _, p, fun O σ H env n Q e s ⟨own, z⟩ => ?_⟩
  refine hz _ σ H _ n Q e.peek.nox s (h.mono _ _ _ _ (fun d n1 z => ?_) z)
  intro v H1 k1 s1 r1
  have e1 := e.kx k1 s1
  refine z.2 v H1 k1 s1 (r1.more (fun b hb => ?_) z.1)
  by_cases q : ownA env σ b
  · obtain ⟨i, w, h1, h2⟩ := q
    obtain ⟨ds, e2⟩ := own i w h1
    subst e2
    obtain ⟨a, g1, ⟨xs, g2, _⟩, _⟩ := e1.own i _ h1
    rw [h2] at g1
    cases g1
    exact .inr ⟨xs, g2⟩
  · exact .inl ⟨hb, q⟩
end
end DL

set_option Elab.async false
set_option linter.all false
set_option maxRecDepth 100000
set_option maxHeartbeats 1000000
/-! DL35: the law's end over a head by looks -/
namespace DL
open PySem L2
open PySem.Spec PyProof.Rows
/-! ### the law's end -/
theorem walk_ofGE {l : PySem.W.OpenLaw} {n k : Nat} {q : Program} {loose : List Str} {XP : (Str → Option Value) → Heap → Prop} {YP : World → Heap → Prop} {d : DefRec} {CX : CXT} {x : Str}
    (hn : l.most = some n) (hn2 : n ≤ sizeLine) (hdf : d.params.defaults = []) (hr : Room k callerA) (hi : importsNone q = true)
    (F : ∀ (w : World) (mg : Str → Option Value) (fa : Addr) (h : Heap), YP w h → h.Ns mainGlobals mg → mg d.name = some (.ref fa) →
      ∃ (K : PySem.W.Frag) (fd : FuncData) (sp : Sp), K.In h ∧ (∀ (s : Shared) (u : Value), BindsTo s fd ⟨[u], []⟩ [(x, u)]) ∧
        (∀ (H : Hp) (a : Addr) (ns : List Int), ns.length ≤ n → Only H → SqL K H a (ns.map V.int) → sp [.ref a] H (fun v _ => v = .bl true) fun _ _ _ => False) ∧
        ∀ base : Heap, K.In base → base.Ns mainGlobals mg → (∃ o, base.get? sysModules = some o) → FnG l.prog w K mg base CX k fa fd [x] sp)
    (hCX : ∀ (H : Hp) (s : Shared) (e : Value) (s' : Shared), CX [] H s (fun _ _ _ => False) e s' → False) :
    PySem.W.WalkO q loose XP YP l.row.toRowW d [] (fun f vs => PySem.call f vs) := by
  refine Att.attach_call hn hdf fun w s₀ t mg mb fa o pm cd doc a vs ns G Y ho hd hcd hmg hobj hints hlen hg => ?_
  obtain ⟨K, fd, sp, KX, hb, hsp, hF⟩ := F w mg fa _ Y G.T.g hmg
  obtain ⟨mm, hm, _⟩ := (PyProof.Rows.Top.seer G.T hi).mods
  exact end_callG KX G.T.g G.T.b G.T.builtins G.T.nolimit ⟨mm, hm⟩ hg hobj hints (Nat.le_trans hlen hn2) hr hF hb (fun H hO hS => hsp H a ns hlen hO hS) fun H e s' => hCX H t e s'
end DL

set_option Elab.async false
set_option linter.all false
set_option maxRecDepth 100000
set_option maxHeartbeats 1000000
/-! DL36: a, b = e, [..]; a call's list is taken as one's own; x in a list of any data; written tables of texts; displays of tables read at once -/
namespace DL
open PySem L2
section
variable {X : Cx} {m : Md}
/-! ### a, b = e, [..] -/
def sParOwn (i j : Nat) (Ta : TD) (Ts : TDs) : TDS := fun Z env n => Ta env n fun x n1 => Ts env n1 fun ds n2 => j < env.length ∧ Z.nx ((env.set i (.val x)).set j (.own (.lst ds))) n2
theorem s_parOwn {st : Stmt} {i j : Nat} {a b : Expr} {Ta : TD} {Ts : TDs} (ha : EV X m a Ta) (hb : FV X m b Ts) (hx : ∀ {t : TA}, PA X [a, b] t → PS X st (tPar i j t)) (hs : starEach [a, b] X.env = (false, eval a X.env) :: starEach [b] X.env := by rfl) (hs2 : starEach [b] X.env = (false, eval b X.env) :: starEach [] X.env := by rfl) : SV X m st (sParOwn i j Ta Ts) := by
  obtain ⟨ta, pa, h1⟩ := ha.ex
  obtain ⟨tb, pb, h2⟩ := hb.ex
  refine ⟨_, hx (pa_cons pa (pa_cons pb pa_nil hs2) hs), fun F σ H env n Z E e s z q => ?_⟩
  refine h1 _ σ H env n _ e.ee s (ha.mono _ _ _ _ (fun x n1 q => ?_) q)
  intro v H1 k1 s1 r1
  have e1 := e.kx k1 s1
  refine h2 _ σ H1 env n1 _ e1.ee s1 (hb.mono _ _ _ _ (fun ds n2 q => ?_) q)
  intro b' xs H2 k2 s2 nb nO hb' rs
  have f1 := e1.set (i := i) r1
  have lt : j < (env.set i (.val x)).length := by rw [List.length_set]; exact q.1
  exact ⟨_, _, rfl, z.nx _ _ _ _ (f1.take (w := .lst ds) s2 k2 lt nb ⟨xs, hb', rs.keep fun c o n q => ⟨q, fun y => n (y.elim (fun y => .inl (y.elim .inl fun y => .inr (ownA_set y).1)) .inr)⟩⟩) s2 q.2⟩
/-! ### a call's list, taken as one's own -/
def shalD : D → Bool
  | .tup l => l.all isScal
  | d => isScal d
theorem shal_ne {O O1 : Addr → Prop} {H : Hp} {a : Addr} {ys : List V} (ha : H a = some (.lst ys)) (old : ∀ b, O b → O1 b) : ∀ {v : V} {d : D}, R O1 H v d → shalD d = true → R (fun b => O b ∨ b = a) H v d := by
  intro v d r h
  cases r with
  | tup n e rs =>
    have h' : List.all _ isScal = true := h
    refine .tup (fun z => z.elim (fun z => n (old _ z)) fun z => by rw [z, ha] at e; cases e) e ?_
    clear e n h
    have := List.all_eq_true.mp h'
    clear h'
    rename_i xs ds
    induction xs generalizing ds with
    | nil => cases rs; exact .nil
    | cons x xs ih =>
      cases rs with
      | cons r1 rs => exact .cons (scal_any (this _ List.mem_cons_self) r1) (ih rs fun d hd => this d (List.mem_cons_of_mem _ hd))
  | non => exact .non
  | bl b => exact .bl b
  | int b => exact .int b
  | str b => exact .str b
  | ptr b => exact .ptr b
  | ty b => exact .ty b
  | lst => cases h
  | dic => cases h
  | obj => cases h
  | exc => cases h
  | exv => cases h
  | exn => cases h
theorem shals_ne {O O1 : Addr → Prop} {H : Hp} {a : Addr} {ys : List V} (ha : H a = some (.lst ys)) (old : ∀ b, O b → O1 b) : ∀ {vs : List V} {ds : List D}, Rs O1 H vs ds → ds.all shalD = true → Rs (fun b => O b ∨ b = a) H vs ds
  | _, _, .nil, _ => .nil
  | _, _, .cons r rs, h => by
    rw [List.all_cons, Bool.and_eq_true] at h
    exact .cons (shal_ne ha old r h.1) (shals_ne ha old rs h.2)
theorem scals_any {O O' : Addr → Prop} {H : Hp} : ∀ {vs : List V} {ds : List D}, Rs O H vs ds → ds.all isScal = true → Rs O' H vs ds
  | _, _, .nil, _ => .nil
  | _, _, .cons r rs, h => by
    rw [List.all_cons, Bool.and_eq_true] at h
    exact .cons (scal_any h.1 r) (scals_any rs h.2)
def fCallS (T : FT) (Ts : TDs) : TDs := fun env n K => Ts env n fun xs n1 => xs.all isScal = true ∧ T xs n1 fun d n2 => ∃ l, d = .lst l ∧ l.all shalD = true ∧ K l n2
theorem f_callS {k : Nat} {f : Addr} {fd : FuncData} {ps : List Str} {T : FT} {x : Str} {p pos : Pos} {e : Expr} {es : List Expr} {Ts : TDs} (F : FnOk X.prog X.w X.K X.mg X.base CX0 k f fd ps (spM m T)) (hm : FMono T) (hr : Room k X.A) (hg : Gl X x) (hmg : X.mg x = some (.ref f)) (hk : PySem.W.keepIn X.K (.ref f) = true) (hb : Binds X.K fd ps []) (a : AV X m (e :: es) Ts)
    (hdb : (x == ("__debug__" : Str)) = false := by decide) (he : starEach (e :: es) X.env = (false, eval e X.env) :: starEach es X.env := by rfl) (hpl : (backTo pos (starEach es X.env)).any (·.1) = false := by rfl) : FV X m (.Call (.Name x p) (e :: es) [] pos) (fCallS T Ts) := by
  obtain ⟨t, pa, h⟩ := a.ex
  refine ⟨fun env n K K' hk' q => a.mono _ _ _ _ (fun xs n1 ⟨h1, q⟩ => ⟨h1, hm _ _ _ _ (fun d n2 ⟨l, e1, e2, q⟩ => ⟨l, e1, e2, hk' _ _ q⟩) q⟩) q, _, pe_call F hr hg hmg hk hb .nil pass0 pa hdb he hpl, fun O σ H env n Q e s q => ?_⟩
  refine h O σ H env n _ e s (a.mono _ _ _ _ (fun xs n1 q => ?_) q)
  intro vs H1 k1 s1 r1
  obtain ⟨h1, q⟩ := q
  rw [List.append_nil]
  refine ⟨xs, fun b => H1 b ≠ none, n1, scals_any r1 h1, fun b hb => m.old n1 H1 b s1 hb, fun b h => h, s1, hm _ _ _ _ (fun d n2 q => ?_) q⟩
  intro v H' k2 s2 r2
  obtain ⟨l, e1, e2, q⟩ := q
  subst e1
  cases r2 with
  | lst na ha rs =>
    rename_i b ys
    have nb : H1 b = none := Classical.byContradiction fun z => na z
    have nd : ¬ m.d b := fun z => m.old n1 H1 b s1 (m.dg b z) nb
    have n0 : H b = none := kx_none k1 nd nb
    have oo : ∀ c, O c → H1 c ≠ none := fun c hc => (e.kx k1 s1).old c hc
    exact q b ys H' (k1.trans k2) s2 n0 (fun z => e.old _ z n0) ha (shals_ne ha oo rs e2)
/-! ### x in a list of any data -/
def dInD (neg : Bool) : RD := fun x y K => ∃ l, y = .lst l ∧ plain x = true ∧ plains l = true ∧ SeqAt.shaped (py x) = true ∧ SeqAt.shaped (.list (pys l)) = true ∧ K (.bl (if neg then !((pys l).any fun z => PyData.eqv z (py x)) else (pys l).any fun z => PyData.eqv z (py x)))
theorem o_inD {KK : PySem.W.Frag} : OpD (rInD KK) (dInD false) where
  mono := fun x y K K' h ⟨l, a, b, c, d, e, k⟩ => ⟨l, a, b, c, d, e, h _ k⟩
  run := fun m O H n v w x y Q gd old st r1 r2 ⟨l, a, b, c, d, e, k⟩ => by
    subst a
    have h2 := R.dp (KK := KK) r2 (show plain (.lst l) = true by simpa [plain] using c)
    have e2 : py (.lst l) = .list (pys l) := by simp [py]
    rw [e2] at h2
    exact ⟨py x, pys l, R.dp r1 b, h2, d, e, k _ H KX.refl st (.bl _)⟩
theorem o_notInD {KK : PySem.W.Frag} : OpD (rNotInD KK) (dInD true) where
  mono := fun x y K K' h ⟨l, a, b, c, d, e, k⟩ => ⟨l, a, b, c, d, e, h _ k⟩
  run := fun m O H n v w x y Q gd old st r1 r2 ⟨l, a, b, c, d, e, k⟩ => by
    subst a
    have h2 := R.dp (KK := KK) r2 (show plain (.lst l) = true by simpa [plain] using c)
    have e2 : py (.lst l) = .list (pys l) := by simp [py]
    rw [e2] at h2
    exact ⟨py x, pys l, R.dp r1 b, h2, d, e, k _ H KX.refl st (.bl _)⟩
end
/-! ### written tables of texts -/
structure WTab (K : PySem.W.Frag) (w : World) (a : Addr) (kvs : List (Str × Str)) : Prop where
  kd : ∃ es n, KDict K w a es n
  at_ : ∀ z, ∃ r, PySem.W.nsIn K a z = some r ∧ (match kvs.lookup z with
    | some v => ∃ t, r = some (.str v t)
    | none => r = none)
def strE (e : DictEntry) : Option (Str × Str) := match e.key, e.val with
  | .str x _, .str y _ => some (x, y)
  | _, _ => none
def tabB (K : PySem.W.Frag) (a : Addr) (kvs : List (Str × Str)) : Bool := match K.lookup a with
  | some ⟨_, _, .dict es _, _⟩ => decide (es.toList.map strE = kvs.map some)
  | _ => false
theorem strE_some {e : DictEntry} {x y : Str} (h : strE e = some (x, y)) : ∃ t u, e.key = .str x t ∧ e.val = .str y u := by
  unfold strE at h
  split at h
  · rename_i a t b u e1 e2
    cases h
    exact ⟨t, u, e1, e2⟩
  · cases h
theorem find_tab {z : Str} : ∀ {es : List DictEntry} {kvs : List (Str × Str)}, es.map strE = kvs.map some →
    (match kvs.lookup z with
      | some v => ∃ e t, es.find? (fun e => e.key.isStr z) = some e ∧ e.val = .str v t
      | none => es.find? (fun e => e.key.isStr z) = none) ∧ es.any (·.refKey) = false
  | [], [], _ => ⟨rfl, rfl⟩
  | [], _ :: _, h => by cases h
  | _ :: _, [], h => by cases h
  | e :: es, (x, y) :: kvs, h => by
    rw [List.map_cons, List.map_cons] at h
    injection h with h1 h2
    obtain ⟨t, u, e1, e2⟩ := strE_some h1
    obtain ⟨i1, i2⟩ := find_tab (z := z) h2
    have er : e.refKey = false := by
      unfold DictEntry.refKey
      rw [e1]
    refine ⟨?_, by rw [List.any_cons, er, i2]; rfl⟩
    rw [List.lookup_cons, List.find?_cons, e1]
    have ek : Value.isStr (.str x t) z = (x == z) := rfl
    rw [ek]
    cases q : z == x with
    | true =>
      have : x = z := (beq_iff_eq.mp q).symm
      rw [this, beq_self_eq_true]
      exact ⟨e, u, rfl, e2⟩
    | false =>
      have : (x == z) = false := by
        cases p : x == z with
        | false => rfl
        | true => rw [beq_iff_eq.mp p, beq_self_eq_true] at q; cases q
      rw [this]
      exact i1
theorem tab_ok {K : PySem.W.Frag} {w : World} {a : Addr} {kvs : List (Str × Str)} (kd : ∃ es n, KDict K w a es n) (h : tabB K a kvs = true) : WTab K w a kvs := by
  refine ⟨kd, fun z => ?_⟩
  obtain ⟨es, n, D⟩ := kd
  have h1 : decide (es.toList.map strE = kvs.map some) = true := by
    unfold tabB at h
    rw [D.at_] at h
    exact h
  obtain ⟨i1, i2⟩ := find_tab (z := z) (of_decide_eq_true h1)
  unfold PySem.W.nsIn
  rw [D.at_]
  dsimp only
  cases q : kvs.lookup z with
  | some v =>
    rw [q] at i1
    obtain ⟨e, t, e1, e2⟩ := i1
    rw [e1]
    exact ⟨_, rfl, t, by rw [e2]⟩
  | none =>
    rw [q] at i1
    rw [i1, i2]
    exact ⟨_, rfl, rfl⟩
def dTIn (a : Addr) (kvs : List (Str × Str)) (neg : Bool) : RD := fun x y K => ∃ z, x = .str z ∧ y = .ptr a ∧ K (.bl (if neg then !(kvs.lookup z).isSome else (kvs.lookup z).isSome))
def dTIx (a : Addr) (kvs : List (Str × Str)) : RD := fun x y K => ∃ z v, x = .ptr a ∧ y = .str z ∧ kvs.lookup z = some v ∧ K (.str v)
def rTIn (K : PySem.W.Frag) (a : Addr) : R2 := fun x y H Q => ∃ (z : Str) (r : Option Value), x = .str z ∧ y = .ref a ∧ PySem.W.nsIn K a z = some r ∧ Q (.bl r.isSome) H
theorem op_inT {X : Cx} {a : Addr} {kvs : List (Str × Str)} (W : WTab X.K X.w a kvs) : OpR X (compareOp .In) (rTIn X.K a) := by
  obtain ⟨es, n, D⟩ := W.kd
  exact op_in_kd D
section
variable {KK : PySem.W.Frag} {w : World} {a : Addr} {kvs : List (Str × Str)}
theorem o_inT (W : WTab KK w a kvs) : OpD (rTIn KK a) (dTIn a kvs false) where
  mono := fun x y K K' h ⟨z, e1, e2, k⟩ => ⟨z, e1, e2, h _ k⟩
  run := fun m O H n v w x y Q gd old st r1 r2 ⟨z, e1, e2, k⟩ => by
    subst e1; subst e2
    cases r1; cases r2
    obtain ⟨r, h1, h2⟩ := W.at_ z
    refine ⟨z, r, rfl, rfl, h1, ?_⟩
    have : r.isSome = (kvs.lookup z).isSome := by
      cases q : kvs.lookup z with
      | some v => rw [q] at h2; obtain ⟨t, e⟩ := h2; rw [e]; rfl
      | none => rw [q] at h2; rw [h2]; rfl
    rw [this]
    exact k _ H KX.refl st (.bl _)
theorem o_ixTab (W : WTab KK w a kvs) : OpD (rIxD KK w) (dTIx a kvs) where
  mono := fun x y K K' h ⟨z, v, e1, e2, e3, k⟩ => ⟨z, v, e1, e2, e3, h _ k⟩
  run := fun m O H n v w x y Q gd old st r1 r2 ⟨z, u, e1, e2, e3, k⟩ => by
    subst e1; subst e2
    cases r1; cases r2
    obtain ⟨r, h1, h2⟩ := W.at_ z
    rw [e3] at h2
    obtain ⟨t, e⟩ := h2
    subst e
    obtain ⟨es, n, D⟩ := W.kd
    exact ⟨a, z, .str u, rfl, rfl, ⟨es, n, _, D.at_, D.lit, h1, ⟨t, rfl⟩⟩, k _ H KX.refl st (.str _)⟩
end
/-! ### displays of texts, read at once -/
def dicS (kvs : List (Str × Str)) : D := .dic (kvs.map fun p => (Sum.inr p.1, .str p.2))
def trS (kvs : List (Str × Str)) : List (TE × TE) := kvs.map fun p => (tC (.str p.1), tC (.str p.2))
theorem pairs_S {σ : L2.St} {H : Hp} : ∀ (kvs : List (Str × Str)) {Q : List (V × V) → Hp → Prop}, Q (kvs.map fun p => (V.str p.1, V.str p.2)) H → tPairs (trS kvs) σ H Q
  | [], _, q => q
  | p :: r, Q, q => pairs_S r (Q := fun ps H3 => Q ((V.str p.1, V.str p.2) :: ps) H3) q
theorem put_new {acc : List (Key × V)} {k : Key} {v : V} (h : k ∉ acc.map (·.1)) : putK acc k v = acc ++ [(k, v)] := by
  unfold putK
  rw [if_neg]
  intro z
  obtain ⟨p, hp, e⟩ := List.any_eq_true.mp z
  exact h (List.mem_map.mpr ⟨p, hp, of_decide_eq_true e⟩)
theorem merge_new : ∀ {more acc : List (Key × V)}, ((acc ++ more).map (·.1)).Nodup → mergeK acc more = acc ++ more
  | [], acc, _ => by rw [List.append_nil]; rfl
  | (k, v) :: r, acc, h => by
    have e : mergeK acc ((k, v) :: r) = mergeK (putK acc k v) r := rfl
    have hk : k ∉ acc.map (·.1) := fun z => by
      rw [List.map_append, List.nodup_append] at h
      exact h.2.2 _ z _ (by rw [List.map_cons]; exact List.mem_cons_self) rfl
    rw [e, put_new hk, merge_new (by rwa [List.append_assoc]), List.append_assoc]
    rfl
section
variable {X : Cx} {m : Md}
theorem rk_S {O : Addr → Prop} {H : Hp} : ∀ {kvs : List (Str × Str)}, Rk O H (kvs.map fun p : Str × Str => ((Sum.inr p.1 : Key), V.str p.2)) (kvs.map fun p : Str × Str => ((Sum.inr p.1 : Key), D.str p.2))
  | [] => .nil
  | _ :: _ => .cons (.str _) rk_S
theorem v_dispS {keys : List (Option Expr)} {values : List Expr} {pos : Pos} (kvs : List (Str × Str)) (h : PPs X pos keys values (trS kvs)) (hn : (kvs.map (·.1)).Nodup) (h15 : kvs.length ≤ 15) (hall : keys.all (·.isSome) = true) (hl : keys.length = values.length) (h0 : keys ≠ []) (hk : keys.length ≤ 15) :
    EV X m (.Dict keys values pos) (tConst (dicS kvs)) := by
  refine ⟨fun _ n _ _ h k => h _ _ k, _, pe_disp h hall hl h0 hk, fun O σ H env n Q e s k => ?_⟩
  intro p np
  refine pairs_S kvs ⟨upd_same, kvs.map fun p : Str × Str => ((Sum.inr p.1 : Key), V.str p.2), by rw [List.map_map]; rfl, by rw [List.length_map]; exact h15, ?_⟩
  have hn2 : ((([] : List (Key × V)) ++ kvs.map fun p : Str × Str => ((Sum.inr p.1 : Key), V.str p.2)).map (fun p : Key × V => p.1)).Nodup := by
    rw [List.nil_append, List.map_map]
    have e1 : ((fun x : Key × V => x.1) ∘ fun p : Str × Str => ((Sum.inr p.1 : Key), V.str p.2)) = (fun z : Str => (Sum.inr z : Key)) ∘ (fun p : Str × Str => p.1) := rfl
    rw [e1, ← List.map_map]
    exact List.Pairwise.map _ (fun a b h z => h (Sum.inr.inj z)) hn
  rw [merge_new hn2, List.nil_append]
  have np' : ¬ O p := e.new np
  have kx : KX m.d H (upd (upd H p (.dK [])) p (.dK (kvs.map fun p : Str × Str => ((Sum.inr p.1 : Key), V.str p.2)))) := fun b o nd hb => by
    have nb := ne_of_none hb np
    rw [upd_ne nb, upd_ne nb]
    exact hb
  refine k _ _ kx (m.keep n H _ s fun a o g ha => ?_) (.dic np' upd_same rk_S)
  have nb := ne_of_none ha np
  rw [upd_ne nb, upd_ne nb]
  exact ha
/-- what a table holds -/
def valD (l : List (Key × D)) (k : Key) : Option D := (l.find? fun p => decide (p.1 = k)).map (·.2)
theorem rk_val {O : Addr → Prop} {H : Hp} {k : Key} : ∀ {kvs : List (Key × V)} {l : List (Key × D)}, Rk O H kvs l → (∃ v d, valV kvs k = some v ∧ valD l k = some d ∧ R O H v d) ∨ (valV kvs k = none ∧ valD l k = none)
  | _, _, .nil => .inr ⟨rfl, rfl⟩
  | _, _, .cons (k := k') (v := v) (r := r0) (x := x) (ds := ds0) r rs => by
    by_cases q : k' = k
    · exact .inl ⟨v, x, valV_pos q, by unfold valD; rw [List.find?_cons, decide_eq_true (show ((k', x) : Key × D).1 = k from q)]; rfl, r⟩
    · have e1 : valV ((k', v) :: r0) k = valV r0 k := valV_neg q
      have e2 : valD ((k', x) :: ds0) k = valD ds0 k := by unfold valD; rw [List.find?_cons, decide_eq_false (show ¬ ((k', x) : Key × D).1 = k from q)]
      rw [e1, e2]
      exact rk_val rs
def keyD : D → Option Key
  | .int i => some (.inl i)
  | .str z => some (.inr z)
  | _ => none
theorem key_r {O : Addr → Prop} {H : Hp} {v : V} {d : D} {k : Key} (r : R O H v d) (h : keyD d = some k) : v = kV k := by
  cases r with
  | int i => cases h; rfl
  | str z => cases h; rfl
  | _ => cases h
def dDGet : RD := fun x y K => ∃ l k d, x = .dic l ∧ keyD y = some k ∧ valD l k = some d ∧ K d
theorem v_dget {ea eb : Expr} {Ta Tb : TD} {pos : Pos} (hu : X.A.units + 1 < cLine) (a : EV X m ea Ta) (b : EV X m eb Tb) (hs : NoSl eb) : EV X m (.Subscript ea eb pos) (tBin dDGet Ta Tb) := by
  obtain ⟨ta, tb, pa, pb, hz⟩ := two a b
  have dm : ∀ x y (K K' : D → Prop), (∀ d, K d → K' d) → dDGet x y K → dDGet x y K' := fun x y K K' h ⟨l, k, d, e1, e2, e3, q⟩ => ⟨l, k, d, e1, e2, e3, h _ q⟩
  refine ⟨fun env n K K' hk q => a.mono _ _ _ _ (fun x n1 q => b.mono _ _ _ _ (fun y n2 q => dm _ _ _ _ (fun d k => hk _ _ k) q) q) q, _, pe_dget hu pa pb hs, fun O σ H env n Q e s q => ?_⟩
  refine hz O σ H env n _ _ e s q fun v w x y H2 n2 k2 e2 s2 r1 r2 ⟨l, k, d, e1, ek, ed, q⟩ => ?_
  subst e1
  cases r1 with
  | dic na ha rk =>
    rcases rk_val (k := k) rk with ⟨v, d', h1, h2, h3⟩ | ⟨h1, h2⟩
    · rw [h2] at ed
      cases ed
      refine ⟨_, v, rfl, ?_, q v H2 k2 s2 h3⟩
      rw [key_r r2 ek, ← h1]
      exact DGet.k ha
    · rw [h2] at ed
      cases ed
/-- d.get(k, z) -/
def tGet2 (Ta Tb Tc : TD) : TD := fun env n K => Ta env n fun x n1 => ∃ l, x = .dic l ∧ Tb env n1 fun y n2 => ∃ k, keyD y = some k ∧ Tc env n2 fun z n3 => K ((valD l k).getD z) n3
theorem v_dget2 {o e f : Expr} {apos cpos : Pos} {Ta Tb Tc : TD} (hu : X.A.units + 1 < cLine) (a : EV X m o Ta) (b : EV X m e Tb) (c : EV X m f Tc) (hm : M2 X o "get" apos e f cpos) : EV X m (.Call (.Attribute o "get" apos) [e, f] [] cpos) (tGet2 Ta Tb Tc) := by
  obtain ⟨ta, pa, h1⟩ := a.ex
  obtain ⟨tb, pb, h2⟩ := b.ex
  obtain ⟨tc, pc, h3⟩ := c.ex
  refine ⟨fun env n K K' hk q => a.mono _ _ _ _ (fun x n1 ⟨l, e, q⟩ => ⟨l, e, b.mono _ _ _ _ (fun y n2 ⟨k, e, q⟩ => ⟨k, e, c.mono _ _ _ _ (fun z n3 q => hk _ _ q) q⟩) q⟩) q, _, pe_dget2 hu pa pb pc hm, fun O σ H env n Q e s q => ?_⟩
  refine h1 O σ H env n _ e s (a.mono _ _ _ _ (fun x n1 q => ?_) q)
  obtain ⟨l, el, q⟩ := q
  subst el
  intro v H1 k1 s1 r1
  have e1 := e.kx k1 s1
  cases r1 with
  | dic na ha rk =>
    rename_i p kvs
    refine ⟨p, rfl, .inl ⟨kvs, .inl ha⟩, ?_⟩
    refine h2 O σ H1 env n1 _ e1 s1 (b.mono _ _ _ _ (fun y n2 q => ?_) q)
    obtain ⟨k, ek, q⟩ := q
    intro w H2 k2 s2 r2
    have e2 := e1.kx k2 s2
    refine h3 O σ H2 env n2 _ e2 s2 (c.mono _ _ _ _ (fun z n3 q => ?_) q)
    intro u H3 k3 s3 r3
    have kk := k2.trans k3
    have np : ¬ m.d p := fun z => na (e1.gd p (m.dg p z))
    have ha3 := kk p _ np ha
    have rk3 : Rk O H3 kvs l := rk.keep fun b o n q => ⟨kk b o (fun z => n (e1.gd b (m.dg b z))) q, n⟩
    rw [key_r r2 ek]
    refine ⟨_, DGet.k ha3, ?_⟩
    rcases rk_val (k := k) rk3 with ⟨v, d', g1, g2, g3⟩ | ⟨g1, g2⟩
    · rw [g2] at q
      rw [g1]
      exact q v H3 (k1.trans kk) s3 g3
    · rw [g2] at q
      rw [g1]
      exact q u H3 (k1.trans kk) s3 r3
end
end DL

set_option Elab.async false
set_option linter.all false
set_option maxRecDepth 100000
set_option maxHeartbeats 1000000
/-! DL37: methods of texts; slices and lists of texts -/
namespace DL
open PySem L2
open PySem.Spec PyProof.Rows
structure MtD (r : V → List V → Hp → VK → Prop) (rd : D → List D → (D → Prop) → Prop) : Prop where
  mono : ∀ x xs K K', (∀ d, K d → K' d) → rd x xs K → rd x xs K'
  run : ∀ (m : Md) (O : Addr → Prop) (H : Hp) (n : Nat) (v : V) (vs : List V) (x : D) (xs : List D) (Q : VK), (∀ a, m.g a → O a) → (∀ a, O a → H a ≠ none) → m.St n H → R O H v x → Rs O H vs xs → rd x xs (fun d => Out m O H Q d n) → r v vs H Q
def tBmS (rd : D → List D → (D → Prop) → Prop) (Ta : TD) (Ts : TDs) : TD := fun env n K => Ta env n fun x n1 => (∃ z, x = .str z) ∧ Ts env n1 fun xs n2 => rd x xs fun d => K d n2
section
variable {X : Cx} {m : Md}
theorem v_bmS {name : Str} {id : String} {r : V → List V → Hp → VK → Prop} {rd : D → List D → (D → Prop) → Prop} {o e : Expr} {es : List Expr} {apos cpos : Pos} {Ta : TD} {Ts : TDs} (hm : MtR X id r) (hd : MtD r rd) (slot : Slot "str" name id) (hty : typeOf (.builtin id) = pure (.type "method_descriptor")) (a : EV X m o Ta) (b : AV X m (e :: es) Ts)
    (hbase : attributeBase o name X.env (eval o X.env) = eval o X.env := by rfl)
    (hfew : ((backTo cpos (starEach (e :: es) X.env)).all (fun x => !x.1) && (backToKw cpos (keywordEach [] X.env)).all (fun x => x.1.isSome)
      && decide ((e :: es).length + ([] : List Keyword).length + (if ([] : List Keyword).isEmpty then 0 else 1) < 30)) = true := by rfl)
    (hline : (apos.endLine == cpos.line) = true := by rfl) (hs : starEach (e :: es) X.env = (false, eval e X.env) :: starEach es X.env := by rfl) (hplain : (backTo cpos (starEach es X.env)).any (·.1) = false := by rfl) :
    EV X m (.Call (.Attribute o name apos) (e :: es) [] cpos) (tBmS rd Ta Ts) := by
  obtain ⟨ta, pa, h1⟩ := a.ex
  obtain ⟨tb, pb, h2⟩ := b.ex
  refine ⟨fun env n K K' hk q => a.mono _ _ _ _ (fun x n1 ⟨h, q⟩ => ⟨h, b.mono _ _ _ _ (fun xs n2 q => hd.mono _ _ _ _ (fun d k => hk _ _ k) q) q⟩) q, _, pe_bm PySem.F.plainAttrs_str slot hty hm pa pb hbase hfew hline hs hplain, fun O σ H env n Q e s q => ?_⟩
  refine h1 O σ H env n _ e s (a.mono _ _ _ _ (fun x n1 ⟨hz, q⟩ => ?_) q)
  obtain ⟨z, hz⟩ := hz
  subst hz
  intro v H1 k1 s1 r1
  have e1 := e.kx k1 s1
  cases r1
  refine ⟨rfl, ?_⟩
  refine h2 O σ H1 env n1 _ e1 s1 (b.mono _ _ _ _ (fun xs n2 q => ?_) q)
  intro vs H2 k2 s2 r2
  have e2 := e1.kx k2 s2
  exact hd.run m O H2 n2 _ _ _ _ Q e2.gd e2.old s2 (.str z) r2 (hd.mono _ _ _ _ (fun d o => out_trans (k1.trans k2) o) q)
/-! ### join, split -/
def dJoin : D → List D → (D → Prop) → Prop := fun x xs K => ∃ a, ∃ ys : List Str, x = .str a ∧ (xs = [.lst (ys.map D.str)] ∨ xs = [.tup (ys.map D.str)]) ∧ (ys.map (·.length)).sum + ys.length * a.length ≤ 16777216 ∧ K (.str (Txt.join a ys))
theorem strs_vs {O : Addr → Prop} {H : Hp} : ∀ {zs : List Str} {vs : List V}, Rs O H vs (zs.map D.str) → vs = zs.map V.str
  | [], _, h => by cases h; rfl
  | z :: zs, _, h => by
    cases h with
    | cons a r => cases a; rw [strs_vs r]; rfl
theorem rs_strs1 {O : Addr → Prop} {H : Hp} : ∀ {zs : List Str}, Rs O H (zs.map V.str) (zs.map D.str)
  | [] => .nil
  | _ :: _ => .cons (.str _) rs_strs1
theorem md_join : MtD (fun x xs H Q => ∃ a p, ∃ ys : List Str, x = .str a ∧ xs = [.ref p] ∧ (SqL X.K H p (ys.map V.str) ∨ SqT X.K H p (ys.map V.str)) ∧ (ys.map (·.length)).sum + ys.length * a.length ≤ 16777216 ∧ Q (.str (Txt.join a ys)) H) dJoin where
  mono := fun x xs K K' h ⟨a, ys, e1, e2, e3, k⟩ => ⟨a, ys, e1, e2, e3, h _ k⟩
  run := fun m O H n v vs x xs Q gd old st r rs ⟨a, ys, e1, e2, e3, k⟩ => by
    subst e1
    cases r
    rcases e2 with e2 | e2
    · subst e2
      cases rs with
      | cons r1 r2 =>
        cases r2
        cases r1 with
        | lst na ha rs =>
          rw [strs_vs rs] at ha
          exact ⟨a, _, ys, rfl, rfl, .inl (.inl (.inl ha)), e3, k _ H KX.refl st (.str _)⟩
    · subst e2
      cases rs with
      | cons r1 r2 =>
        cases r2
        cases r1 with
        | tup na ha rs =>
          rw [strs_vs rs] at ha
          exact ⟨a, _, ys, rfl, rfl, .inr (.inl (.inl ha)), e3, k _ H KX.refl st (.str _)⟩
def dSplit : D → List D → (D → Prop) → Prop := fun x xs K => ∃ a b, x = .str a ∧ xs = [.str b] ∧ (b.length == 0) = false ∧ a.length + 2 ≤ sizeLine ∧ K (.lst ((Txt.split a b).map D.str))
theorem md_split : MtD (fun x xs H Q => ∃ a b, x = .str a ∧ xs = [.str b] ∧ (b.length == 0) = false ∧ a.length + 2 ≤ sizeLine ∧ rNewStrs (Txt.split a b) H Q) dSplit where
  mono := fun x xs K K' h ⟨a, b, e1, e2, e3, e4, k⟩ => ⟨a, b, e1, e2, e3, e4, h _ k⟩
  run := fun m O H n v vs x xs Q gd old st r rs ⟨a, b, e1, e2, e3, e4, k⟩ => by
    subst e1; subst e2
    cases r
    cases rs with
    | cons r1 r2 =>
      cases r2
      cases r1
      exact ⟨a, b, rfl, rfl, e3, e4, fun p np => k _ _ (KX.new np) (st_new st np) (.lst (fun z => old p z np) upd_same rs_strs1)⟩
theorem v_join {o e : Expr} {apos cpos : Pos} {Ta : TD} {Ts : TDs} (a : EV X m o Ta) (b : AV X m [e] Ts) (hbase : attributeBase o "join" X.env (eval o X.env) = eval o X.env := by rfl)
    (hfew : ((backTo cpos (starEach [e] X.env)).all (fun x => !x.1) && (backToKw cpos (keywordEach [] X.env)).all (fun x => x.1.isSome)
      && decide (([e] : List Expr).length + ([] : List Keyword).length + (if ([] : List Keyword).isEmpty then 0 else 1) < 30)) = true := by rfl)
    (hline : (apos.endLine == cpos.line) = true := by rfl) (hs : starEach [e] X.env = (false, eval e X.env) :: starEach [] X.env := by rfl) (hplain : (backTo cpos (starEach [] X.env)).any (·.1) = false := by rfl) : EV X m (.Call (.Attribute o "join" apos) [e] [] cpos) (tBmS dJoin Ta Ts) :=
  v_bmS mt_join md_join PySem.F.slot_str_join PySem.F.type_str_join a b hbase hfew hline hs hplain
theorem v_split {o e : Expr} {apos cpos : Pos} {Ta : TD} {Ts : TDs} (a : EV X m o Ta) (b : AV X m [e] Ts) (hbase : attributeBase o "split" X.env (eval o X.env) = eval o X.env := by rfl)
    (hfew : ((backTo cpos (starEach [e] X.env)).all (fun x => !x.1) && (backToKw cpos (keywordEach [] X.env)).all (fun x => x.1.isSome)
      && decide (([e] : List Expr).length + ([] : List Keyword).length + (if ([] : List Keyword).isEmpty then 0 else 1) < 30)) = true := by rfl)
    (hline : (apos.endLine == cpos.line) = true := by rfl) (hs : starEach [e] X.env = (false, eval e X.env) :: starEach [] X.env := by rfl) (hplain : (backTo cpos (starEach [] X.env)).any (·.1) = false := by rfl) : EV X m (.Call (.Attribute o "split" apos) [e] [] cpos) (tBmS dSplit Ta Ts) :=
  v_bmS mt_split md_split PySem.F.slot_str_split PySem.F.type_str_split a b hbase hfew hline hs hplain
end
/-! ### the parts of a text -/
theorem spl_mem {S : List Nat} : ∀ (l : List Nat) (k : Nat) (acc : List Nat), ∀ p ∈ TL.spl S k acc l, p.length ≤ acc.length + l.length ∧ ∀ c ∈ p, c ∈ acc ∨ c ∈ l
  | [], k, acc, p, h => by
    rw [TL.spl_nil] at h
    rw [List.mem_singleton.mp h]
    exact ⟨by omega, fun c hc => .inl hc⟩
  | c :: r, 0, acc, p, h => by
    cases q : TL.pre S (c :: r) with
    | true =>
      rw [TL.spl_hit q] at h
      rcases List.mem_cons.mp h with e | h
      · rw [e]; exact ⟨by omega, fun c hc => .inl hc⟩
      · obtain ⟨h1, h2⟩ := spl_mem r _ _ p h
        rw [List.length_nil] at h1
        exact ⟨by rw [List.length_cons]; omega, fun c hc => (h2 c hc).elim (fun z => by cases z) fun z => .inr (List.mem_cons_of_mem _ z)⟩
    | false =>
      rw [TL.spl_miss q] at h
      obtain ⟨h1, h2⟩ := spl_mem r _ _ p h
      rw [List.length_append, List.length_singleton] at h1
      refine ⟨by rw [List.length_cons]; omega, fun x hx => (h2 x hx).elim (fun z => ?_) fun z => .inr (List.mem_cons_of_mem _ z)⟩
      rcases List.mem_append.mp z with z | z
      · exact .inl z
      · rw [List.mem_singleton.mp z]; exact .inr List.mem_cons_self
  | c :: r, k + 1, acc, p, h => by
    have h' : p ∈ TL.spl S k acc r := h
    obtain ⟨h1, h2⟩ := spl_mem r _ _ p h'
    exact ⟨by rw [List.length_cons]; omega, fun x hx => (h2 x hx).elim .inl fun z => .inr (List.mem_cons_of_mem _ z)⟩
theorem spl_len {S : List Nat} : ∀ (l : List Nat) (k : Nat) (acc : List Nat), (TL.spl S k acc l).length ≤ l.length + 1
  | [], k, acc => by rw [TL.spl_nil]; exact Nat.le_refl _
  | c :: r, 0, acc => by
    cases q : TL.pre S (c :: r) with
    | true =>
      rw [TL.spl_hit q, List.length_cons, List.length_cons]
      exact Nat.succ_le_succ (spl_len r _ _)
    | false =>
      rw [TL.spl_miss q, List.length_cons]
      exact Nat.le_trans (spl_len r _ _) (Nat.le_succ _)
  | c :: r, k + 1, acc => by
    show (TL.spl S k acc r).length ≤ _
    rw [List.length_cons]
    exact Nat.le_trans (spl_len r _ _) (Nat.le_succ _)
theorem split_part {x y : Str} (hy : y.cps.toList ≠ []) (hk : y.cps.all (· < 256) = true) : ∀ w ∈ Txt.split x y, w.cps.toList.length ≤ x.cps.toList.length ∧ ∀ c ∈ w.cps.toList, c ∈ x.cps.toList := fun w hw => by
  have e := TL.split_spl x y hy (TL.kind_ok hk)
  have hm : TL.tl w ∈ (Txt.split x y).map TL.tl := List.mem_map_of_mem hw
  rw [e] at hm
  obtain ⟨h1, h2⟩ := spl_mem _ _ _ _ hm
  rw [List.length_nil, Nat.zero_add] at h1
  exact ⟨h1, fun c hc => (h2 c hc).elim (fun z => by cases z) id⟩
theorem split_count {x y : Str} (hy : y.cps.toList ≠ []) (hk : y.cps.all (· < 256) = true) : (Txt.split x y).length ≤ x.cps.toList.length + 1 := by
  have e := congrArg List.length (TL.split_spl x y hy (TL.kind_ok hk))
  rw [List.length_map] at e
  rw [e]
  exact spl_len _ _ _
/-! ### a sign in a text -/
def dInS (neg : Bool) : RD := fun x y K => ∃ (c : Nat) (z : Str), x = .str ⟨#[c]⟩ ∧ y = .str z ∧ K (.bl (if neg then !decide (c ∈ z.cps.toList) else decide (c ∈ z.cps.toList)))
theorem o_inS : OpD (fun x y H Q => ∃ (c : Nat) (z : Str), x = .str ⟨#[c]⟩ ∧ y = .str z ∧ Q (.bl (decide (c ∈ z.cps.toList))) H) (dInS false) where
  mono := fun x y K K' h ⟨c, z, a, b, k⟩ => ⟨c, z, a, b, h _ k⟩
  run := fun m O H n v w x y Q gd old st r1 r2 ⟨c, z, a, b, k⟩ => by
    subst a; subst b
    cases r1; cases r2
    exact ⟨c, z, rfl, rfl, k _ H KX.refl st (.bl _)⟩
theorem o_notInS : OpD (fun x y H Q => ∃ (c : Nat) (z : Str), x = .str ⟨#[c]⟩ ∧ y = .str z ∧ Q (.bl (!decide (c ∈ z.cps.toList))) H) (dInS true) where
  mono := fun x y K K' h ⟨c, z, a, b, k⟩ => ⟨c, z, a, b, h _ k⟩
  run := fun m O H n v w x y Q gd old st r1 r2 ⟨c, z, a, b, k⟩ => by
    subst a; subst b
    cases r1; cases r2
    exact ⟨c, z, rfl, rfl, k _ H KX.refl st (.bl _)⟩
end DL

set_option Elab.async false
set_option linter.all false
set_option maxRecDepth 100000
set_option maxHeartbeats 1000000
/-! DL38: a, b, c = x, y, z -/
namespace DL
open PySem L2
section
variable {X : Cx} {m : Md}
def sPar3 (i j l : Nat) (Ta Tb Tc : TD) : TDS := fun Z env n => Ta env n fun x n1 => Tb env n1 fun y n2 => Tc env n2 fun z n3 => Z.nx (((env.set i (.val x)).set j (.val y)).set l (.val z)) n3
theorem s_par3 {st : Stmt} {i j l : Nat} {a b c : Expr} {Ta Tb Tc : TD} (ha : EV X m a Ta) (hb : EV X m b Tb) (hc : EV X m c Tc) (hx : ∀ {t : TA}, PA X [a, b, c] t → PS X st (tPar3 i j l t)) (hs : starEach [a, b, c] X.env = (false, eval a X.env) :: starEach [b, c] X.env := by rfl) (hs2 : starEach [b, c] X.env = (false, eval b X.env) :: starEach [c] X.env := by rfl) (hs3 : starEach [c] X.env = (false, eval c X.env) :: starEach [] X.env := by rfl) : SV X m st (sPar3 i j l Ta Tb Tc) := by
  obtain ⟨ta, pa, h1⟩ := ha.ex
  obtain ⟨tb, pb, h2⟩ := hb.ex
  obtain ⟨tc, pc, h3⟩ := hc.ex
  refine ⟨_, hx (pa_cons pa (pa_cons pb (pa_cons pc pa_nil hs3) hs2) hs), fun F σ H env n Z E e s z q => ?_⟩
  refine h1 _ σ H env n _ e.ee s (ha.mono _ _ _ _ (fun x n1 q => ?_) q)
  intro v H1 k1 s1 r1
  have e1 := e.kx k1 s1
  refine h2 _ σ H1 env n1 _ e1.ee s1 (hb.mono _ _ _ _ (fun y n2 q => ?_) q)
  intro w H2 k2 s2 r2
  have e2 := e1.kx k2 s2
  refine h3 _ σ H2 env n2 _ e2.ee s2 (hc.mono _ _ _ _ (fun u n3 q => ?_) q)
  intro uu H3 k3 s3 r3
  have e3 := e2.kx k3 s3
  have up : ∀ {O : Addr → Prop} {G G' : Hp} {v : V} {d : D}, (∀ a, m.d a → O a) → KX m.d G G' → R O G v d → R O G' v d := fun h k r => r.kx (k.mono h)
  have hO : ∀ a, m.d a → OO F.O env σ a := fun a h => .inl (e.gd a (m.dg a h))
  have r1' := up hO (k2.trans k3) r1
  have r2' := up hO k3 r2
  have f1 := e3.set (i := i) r1'
  have r2'' : R (OO F.O (env.set i (.val x)) (σ.set i (some v))) H3 w y := r2'.keep fun b o n q => ⟨q, fun z => n (z.elim .inl fun z => .inr (ownA_set z).1)⟩
  have f2 := f1.set (i := j) r2''
  have r3'' : R (OO F.O ((env.set i (.val x)).set j (.val y)) ((σ.set i (some v)).set j (some w))) H3 uu u := r3.keep fun b o n q => ⟨q, fun z => n (z.elim .inl fun z => .inr (ownA_set (ownA_set z).1).1)⟩
  exact ⟨_, _, _, rfl, z.nx _ _ _ _ (f2.set (i := l) r3'') s3 q⟩
end
end DL

set_option Elab.async false
set_option linter.all false
set_option maxRecDepth 100000
set_option maxHeartbeats 1000000
/-! DL39: the list of a text's signs -/
namespace DL
open PySem L2
section
open PySem.Spec PyProof.Rows
variable {prog : Program} {w : World} {A : Around} {E : Value → Shared → Prop} {s : Shared} {x : Str} {t : Tok}
theorem lstr_hint {Q : Bool → Shared → Prop} (h : Q false s) : wpAny (model prog w) A (Builtin.List.listLengthHint (.str x t)) Q E s := by
  have hT : s.TypeIs (.str x t) "str" := rfl
  unfold Builtin.List.listLengthHint
  refine wpAny_bind (wpAny_specialOf hT PySem.F.slot_str_len.lookup ?_)
  generalize hid : ("str.__len__" : String) = id0
  wp_delta
  rw [show splitId id0 = some ("str", "__len__") from by subst hid; decide +kernel]
  subst hid
  refine wpAny_bind (wpAny_isInstance (T := "str") (b := true) hT (by rw [isSubtype_type]; kernel_rfl) ?_)
  refine wpAny_ite_split (fun hab => absurd hab (by decide)) (fun _ => ?_)
  refine wpAny_ite_split (fun _ => ?_) (fun hab => absurd (by decide +kernel) hab)
  refine wpAny_bind (wpAny_typeOf hT ?_)
  exact wpAny_pure h
theorem lstr_extend {R : Result → Shared → Prop} (hh : A.handled = none) (S : Addr) (res : Value) (c₀ : Nat) (hS : s.heap.get? S = some { cls := .type "list", data := .seq #[] c₀ })
    (hR : ∀ h' tk acc' c', (∀ b o, b ≠ S → s.heap.get? b = some o → h'.get? b = some o) → h'.get? S = some { cls := .type "list", dict := none, data := .seq acc' c', slots := #[] } → ItemsOf (SignAt x) acc' x.cps.size → R (.ok (.ret res)) { s with heap := h', toks := tk }) (hn : x.cps.size ≤ sizeLine) :
    wpAny (model prog w) A.in1 (Builtin.List.listExtendWith (.ref S) (.str x t) res)
      (fun fin s' => match fin with | .done f => R (.ok f) s' | .again c' => c'.quiet = true ∧ codeAny (model prog w) A c' R s') (fun e s' => R (.error e) s') s := by
  have hSI : S ≠ s.heap.objs.size := Nat.ne_of_lt (Heap.lt_size hS)
  have hSf : S ∉ [s.heap.objs.size] := by simp only [List.mem_singleton]; exact hSI
  unfold Builtin.List.listExtendWith
  refine wpAny_bind (wpAny_typeOf (T := "str") rfl ?_)
  have h1 : Builtin.List.listSameRef (.ref S) (.str x t) = false := by simp [Builtin.List.listSameRef]
  have h2 : (Value.type "str" == Value.type "list") = false := by decide
  have h3 : (Value.type "str" == Value.type "tuple") = false := by decide
  simp only [h1, h2, h3, Bool.or_false, Bool.false_eq_true, if_false]
  refine wpAny_bind (wpAny_pyIter_str fun oI St W st => ?_)
  have key : ∀ (h : Heap) (c₁ tk : Nat), St 0 h → (∀ b o, b ≠ S → s.heap.get? b = some o → h.get? b = some o) →
      h.get? S = some { cls := .type "list", data := .seq #[] c₁ } → codeAny (model prog w) A (.builtin "list.extend.loop" ⟨[.ref S, .ref s.heap.objs.size, res], []⟩) R { s with heap := h, toks := tk } := by
    intro h c₁ tk hst hk hS₁
    refine codeAny_extend_loopS (W A.in1 hh).toS hn S hSf res x.cps.size 0 _ #[] c₁ rfl (Nat.zero_le _) hst hS₁ (ItemsOf.nil _) fun s' acc' c' hm hS' hacc => ?_
    rw [Moved.eq_with hm]
    refine hR s'.heap s'.toks acc' c' (fun b o hb e => hm.heap b o (fun hmem => ?_) (hk b o hb e)) hS' hacc
    rcases List.mem_cons.mp hmem with e' | hmem
    · exact hb e'
    · exact absurd (Heap.lt_size e) (by rw [List.mem_singleton.mp hmem]; exact Nat.lt_irrefl _)
  have hS₁ := Heap.get?_push_of_some oI hS
  refine wpAny_bind (wpAny_holding (lstr_hint ?_))
  refine wpAny_ite_split (fun _ => ?_) (fun _ => wpAny_pure ⟨plainId_quiet PySem.F.plain_extend_loop _, key _ c₀ _ st (fun b o _ e => Heap.get?_push_of_some _ e) hS₁⟩)
  refine wpAny_bind (wpAny_rule ?_)
  refine wpAny_bind ?_
  show wpAny _ _ (updateSeq S (·.push .none) >>= fun _ => updateSeq S (·.pop)) _ _ _
  refine wpAny_bind (wpAny_updateSeq hS₁ rfl ?_)
  have hS₂ := Heap.get?_update_self (Obj.mapSeq (·.push Value.none)) hS₁ rfl
  refine wpAny_updateSeq (hz := by seq_fits) hS₂ rfl ?_
  have hS₃ := Heap.get?_update_self (Obj.mapSeq (·.pop)) hS₂ rfl
  refine wpAny_pure ⟨plainId_quiet PySem.F.plain_extend_loop _, key _ _ _ ?_ (fun b o hb e => ?_) hS₃⟩
  · refine (W A.in1 hh).frame 0 _ _ st fun b hb o e => ?_
    have hbS : b ≠ S := fun h => hSf (h ▸ hb)
    exact (Heap.get?_update_other _ _ (Ne.symm hbS)).trans ((Heap.get?_update_other _ _ (Ne.symm hbS)).trans e)
  · exact (Heap.get?_update_other _ _ (Ne.symm hb)).trans ((Heap.get?_update_other _ _ (Ne.symm hb)).trans (Heap.get?_push_of_some _ e))
theorem lstr_init {R : Result → Shared → Prop} (hh : A.handled = none) (S : Addr) (hS : s.heap.get? S = some { cls := .type "list", data := .seq #[] })
    (hR : ∀ h' tk acc' c', (∀ b o, b ≠ S → s.heap.get? b = some o → h'.get? b = some o) → h'.get? S = some { cls := .type "list", dict := none, data := .seq acc' c', slots := #[] } → ItemsOf (SignAt x) acc' x.cps.size → R (.ok (.ret .none)) { s with heap := h', toks := tk }) (hn : x.cps.size ≤ sizeLine) :
    wpAny (model prog w) A.in1 (Builtin.«list.__init__» ⟨[.ref S, .str x t], []⟩)
      (fun fin s' => match fin with | .done f => R (.ok f) s' | .again c' => c'.quiet = true ∧ codeAny (model prog w) A c' R s') (fun e s' => R (.error e) s') s := by
  show wpAny _ _ (do let old ← Builtin.List.listItems (.ref S); Builtin.List.listUpdate (.ref S) (fun _ => #[]); letGo old.toList.reverse; Builtin.List.listExtendWith (.ref S) (.str x t) .none) _ _ s
  refine wpAny_bind ?_
  unfold Builtin.List.listItems
  refine wpAny_bind (wpAny_seqItems hS rfl (wpAny_pure ?_))
  show wpAny _ _ (updateSeq S (fun _ => #[]) >>= fun _ => letGo (#[] : Array Value).toList.reverse >>= fun _ => Builtin.List.listExtendWith (.ref S) (.str x t) .none) _ _ s
  refine wpAny_bind (wpAny_updateSeq hS rfl ?_)
  have hS₂ := Heap.get?_update_self (Obj.mapSeq (fun _ => (#[] : Array Value))) hS rfl
  have oth : ∀ b o, b ≠ S → s.heap.get? b = some o → (s.heap.update S (Obj.mapSeq (fun _ => (#[] : Array Value)))).get? b = some o :=
    fun b o hb e => (Heap.get?_update_other _ _ (Ne.symm hb)).trans e
  refine wpAny_bind (wpAny_letGo ?_)
  refine lstr_extend hh S .none _ hS₂ (fun h' tk acc' c' hk hS' hacc => ?_) hn
  exact hR h' tk acc' c' (fun b o hb e => hk b o hb (oth b o hb e)) hS' hacc
theorem lstr_call {Q : Value → Shared → Prop} (hh : A.handled = none) (hn : x.cps.size ≤ sizeLine)
    (hQ : ∀ h' tk acc' c', (∀ b o, s.heap.get? b = some o → h'.get? b = some o) → h'.get? s.heap.objs.size = some { cls := .type "list", dict := none, data := .seq acc' c', slots := #[] } → ItemsOf (SignAt x) acc' x.cps.size → Q (.ref s.heap.objs.size) { s with heap := h', toks := tk }) :
    wpAny (model prog w) A (call (.type "list") [.str x t]) Q E s := by
  refine callType_codes (Q₁ := fun obj s₁ => obj = .ref s.heap.objs.size ∧ s₁ = { s with heap := s.heap.push { cls := .type "list", data := .seq #[] } }) PySem.F.called_list (PySem.F.typeCall_list_1 _) PySem.F.entry_list_init
    (code_list_new _ ⟨rfl, rfl⟩) fun obj s₁ h₁ => ?_
  obtain ⟨rfl, rfl⟩ := h₁
  have hS : (s.heap.push { cls := .type "list", data := .seq #[] }).get? s.heap.objs.size = some { cls := .type "list", data := .seq #[] } := Heap.get?_push_size _ rfl
  refine ⟨⟨_, hS, rfl⟩, PySem.F.args_list_init_2 _ _, lstr_init (A := A.in1) hh _ hS (fun h' tk acc' c' hk hS' hacc => ?_) hn⟩
  exact ⟨rfl, hQ h' tk acc' c' (fun b o e => hk b o (Nat.ne_of_lt (Heap.lt_size e)) (Heap.get?_push_of_some _ e)) hS' hacc⟩
theorem vals_signs {acc : Array Value} (h : ItemsOf (SignAt x) acc x.cps.size) : Vals (x.cps.toList.map fun c => V.str ⟨#[c]⟩) acc.toList := by
  have e : acc.toList.length = x.cps.toList.length := by rw [Array.length_toList, Array.length_toList]; exact h.1
  have hg : ∀ j v, acc.toList[j]? = some v → ∃ c u, x.cps.toList[j]? = some c ∧ v = Value.str ⟨#[c]⟩ u := fun j v hj => by
    obtain ⟨c, u, e1, e2⟩ := h.2 j v (by rw [← hj, Array.getElem?_toList])
    exact ⟨c, u, by rw [Array.getElem?_toList]; exact e1, e2⟩
  generalize acc.toList = vs at e hg
  generalize x.cps.toList = cs at e hg
  clear h
  induction cs generalizing vs with
  | nil => cases vs with
    | nil => exact .nil
    | cons v r => cases e
  | cons c cs ih => cases vs with
    | nil => cases e
    | cons v r =>
      obtain ⟨c', u, e1, e2⟩ := hg 0 v rfl
      cases e1
      subst e2
      exact .cons ⟨u, rfl⟩ (ih r (Nat.succ.inj e) fun j v hj => hg (j + 1) v hj)
end
section
variable {X : Cx}
theorem call_list_str (hc : X.calm = true) : CallR X (.type "list") (fun xs H Q => ∃ z : Str, xs = [.str z] ∧ z.length ≤ sizeLine ∧ ∀ l, H l = none → Q (.ref l) (upd H l (.lst (z.cps.toList.map fun c => V.str ⟨#[c]⟩)))) := by
  intro pins s σ H xs us Q I r h
  obtain ⟨z, rfl, hz, q⟩ := h
  obtain ⟨u, rfl, rx⟩ := vals1 r
  obtain ⟨t, rfl⟩ := rx
  refine lstr_call (I.ok.hd hc) hz fun h' tk acc c' hk e' hi => ?_
  refine ⟨.ref s.heap.objs.size, _, I.laid hk (Nat.le_refl _) (show ObjOk X.prog X.w _ _ _ (.lst (z.cps.toList.map fun c => V.str ⟨#[c]⟩)) from ⟨?_, acc.toList, c', vals_signs hi, ?_⟩), rfl, q _ (I.hok.fresh (Nat.le_refl _))⟩
  · rw [List.length_map]; exact hz
  · rw [Array.toArray_toList]; exact e'
def cListS : List D → (D → Prop) → Prop := fun xs K => ∃ z : Str, xs = [.str z] ∧ z.length ≤ sizeLine ∧ K (.lst (z.cps.toList.map fun c => D.str ⟨#[c]⟩))
theorem rs_signs {O : Addr → Prop} {H : Hp} : ∀ cs : List Nat, Rs O H (cs.map fun c => V.str ⟨#[c]⟩) (cs.map fun c => D.str ⟨#[c]⟩)
  | [] => .nil
  | c :: cs => .cons (.str _) (rs_signs cs)
theorem k_listS : CallD (fun xs H Q => ∃ z : Str, xs = [.str z] ∧ z.length ≤ sizeLine ∧ ∀ l, H l = none → Q (.ref l) (upd H l (.lst (z.cps.toList.map fun c => V.str ⟨#[c]⟩)))) cListS where
  mono := fun xs K K' h ⟨z, a, b, k⟩ => ⟨z, a, b, h _ k⟩
  run := fun m O H n vs xs Q gd old st rs ⟨z, e, hz, k⟩ => by
    subst e
    cases rs with
    | cons r1 r2 =>
      cases r2
      cases r1
      exact ⟨z, rfl, hz, fun p np => k _ _ (KX.new np) (st_new st np) (.lst (fun z => old p z np) upd_same (rs_signs _))⟩
end
end DL

set_option Elab.async false
set_option linter.all false
set_option maxRecDepth 100000
set_option maxHeartbeats 1000000
/-! DL40: {} -/
namespace DL
open PySem L2
section
variable {X : Cx} {m : Md}
def tDNewD : TD := fun _ n K => K (.dic []) n
theorem v_dnew {pos : Pos} : EV X m (.Dict [] [] pos) tDNewD := by
  refine ⟨fun env n K K' h q => h _ _ q, _, pe_dnewK, fun O σ H env n Q e s q => ?_⟩
  intro p hp
  exact q _ _ (KX.new hp) (st_new s hp) (.dic (fun z => e.old p z hp) upd_same .nil)
end
end DL

set_option Elab.async false
set_option linter.all false
set_option maxRecDepth 100000
set_option maxHeartbeats 1000000
/-! DL41: own errors as values: made, their fields read, isinstance -/
namespace DL
open PySem L2
section
open PySem PySem.Spec PyProof.Rows
variable {X : Cx} {C : Addr} {B n i : String} {bm : List Value}
/-- C(..), C an own error with its own __init__, as a value -/
theorem pe_mkErr {x : Str} {fI : Addr} {k : Nat} {fd : FuncData} {ps : List Str} {sp : Sp} {e : Expr} {es : List Expr} {ta : TA} {p pos : Pos} (T : OexB X.K C B n i bm) (iC : PySem.W.findIn X.K (.ref C) "__init__" = some (some (.ref fI))) (tI : PySem.W.typeIn X.K (.ref fI) = some (.type "function"))
    (F1 : FnOk X.prog X.w X.K X.mg X.base CX0 k fI fd ps sp) (hr : Room (k + 1) X.A) (hb : Binds X.K fd ps []) (hg : Gl X x) (hm : X.mg x = some (.ref C)) (ha : PA X (e :: es) ta)
    (hdb : (x == ("__debug__" : Str)) = false := by decide) (he : starEach (e :: es) X.env = (false, eval e X.env) :: starEach es X.env := by rfl) (hpl : (backTo pos (starEach es X.env)).any (·.1) = false := by rfl) :
    PE X (.Call (.Name x p) (e :: es) [] pos) (fun σ H Q => ta σ H fun vs H1 => vs.length ≤ 900 ∧ ∀ a, H1 a = none → sp (.ref a :: vs) (upd H1 a (exo a C none)) (fun v H2 => v = .non ∧ Q (.ref a) H2) fun _ _ _ => False) := by
  refine ⟨fun pins s σ H Q I h => ?_⟩
  obtain ⟨nm, q, N, bs, sn, sub, ab, col, dd, k0, k1, k2, k3, k5, hC⟩ := T.cls
  refine wpAny_Call_Name_kw (ld_glob I hg hm ?_ hdb)
  refine PySem.W.callWith_K (h₀ := X.base) I.ok.mod.kin T.kC (thn (ha.run pos pins s σ H _ I h) fun us s1 ⟨vs, H1, I1, r1, hz, q1⟩ => ⟨I1.kIn, ?_⟩) he hpl
  show wpAny _ _ (call (.ref C) us) _ _ _
  obtain ⟨hp, g, dr, tk, os⟩ := s1
  have hsz : hp.objs.size ≤ hp.objs.size + 1 := Nat.le_succ _
  have hq := q1 (hp.objs.size + 1) (I1.hok.fresh hsz)
  have hget : ((hp.push (PySem.W.kdv_tup us)).push (PySem.HandSPX.excO C hp.objs.size)).get? (hp.objs.size + 1) = some (PySem.HandSPX.excO C hp.objs.size) := by heap_get
  have kk : ∀ b o, hp.get? b = some o → ((hp.push (PySem.W.kdv_tup us)).push (PySem.HandSPX.excO C hp.objs.size)).get? b = some o := fun b o z => Heap.get?_push_of_some _ (Heap.get?_push_of_some _ z)
  have I2 := I1.laid (t' := tk) (a := hp.objs.size + 1) (o := exo (hp.objs.size + 1) C none) (h' := (hp.push (PySem.W.kdv_tup us)).push (PySem.HandSPX.excO C hp.objs.size)) kk hsz (exo_ok hget)
  have r2 : Vals (V.ref (hp.objs.size + 1) :: vs) (Value.ref (hp.objs.size + 1) :: us) := .cons rfl r1
  have hl : (Value.ref (hp.objs.size + 1) :: us ++ ([] : List Value)).length = ps.length := by rw [List.append_nil]; exact (F1.len _ _ _ _ hq ▸ r2.length).symm
  have hus : us.length ≤ sizeLine := by
    rw [← Paired.length r1, sizeLine_eq]
    omega
  have hb2 := hb ⟨(hp.push (PySem.W.kdv_tup us)).push (PySem.HandSPX.excO C hp.objs.size), g, dr, tk, os⟩ (Value.ref (hp.objs.size + 1) :: us) I2.kIn hl
  rw [List.append_nil] at hb2
  refine wpAny_call (PySem.HandSPX.call_own T.base (fun _ => rfl) (I1.kIn _ _ hC) (PySem.W.looks_findIn I1.kIn iC) (fun self => PySem.W.bind_fn I1.kIn self tI) hus
    (codeAny_mono (F1.run _ X.stack _ _ ⟨Value.ref (hp.objs.size + 1) :: us, []⟩ (Value.ref (hp.objs.size + 1) :: us) _ _ (fun _ _ _ => False) (hr.make C us []) (I2.env0.make C us []) hb2 r2 hq) fun r s' back => ?_))
  cases r with
  | error er => exact pass0 pins σ _ _ er s' I2 back
  | ok fl =>
    cases fl with
    | ret u =>
      obtain ⟨v, H', I3, rv, ev, q3⟩ := I2.after back
      subst ev
      exact ⟨rv, V.ref (hp.objs.size + 1), H', I3, rfl, q3⟩
    | next => exact False.elim back
    | brk => exact False.elim back
    | cont => exact False.elim back
/-- C(), C an own error without __init__ -/
theorem pe_mkErr0 {bmB : List Value} {newId initId : String} {x : Str} {p pos : Pos} (F : ExcBaseFacts B newId initId bmB) (q : PySem.W.excIn X.K C bmB newId = true) (gC : X.mg x = some (.ref C)) (kC : PySem.W.keepIn X.K (.ref C) = true) (hg : Gl X x) (hdb : (x == ("__debug__" : Str)) = false := by decide) :
    PE X (.Call (.Name x p) [] [] pos) (fun σ H Q => ∀ a, H a = none → Q (.ref a) (upd H a (exo a C none))) := by
  refine ⟨fun pins s σ H Q I h => ?_⟩
  refine wpAny_Call_Name_kw (ld_glob I hg gC ?_ hdb)
  refine PySem.W.callWith_K0 I.kIn kC ?_
  show wpAny _ _ (call (.ref C) []) _ _ _
  obtain ⟨bm, N, nm, qn, bs, hdct, sn, sub, ab, col, dd, k0, k1, k2, k3, k5, mN, hC, hN, hni, T⟩ := exc_obj I.kIn q
  refine wpAny_call_exc_subT F T hC hN hni (fun h' a hm => ?_) (by show 0 ≤ sizeLine; exact Nat.zero_le _)
  have hn : H a = none := I.hok.gone hm.new
  obtain ⟨t, ht, _, _⟩ := hm.there
  exact ⟨.ref a, upd H a (exo a C none), I.laidN hm.keeps hm.new hn (exo_ok ht), rfl, h a hn⟩
/-- e.f, e an own error as a value -/
theorem pe_xfv {e : Expr} {te : TE} {pos : Pos} {f : Str} (he : PE X e te) (hb : attributeBase e f X.env (eval e X.env) = eval e X.env := by rfl) :
    PE X (.Attribute e f pos) (fun σ H Q => te σ H fun x H1 => ∃ (a d C : Addr) (fs : List (Str × V)) (v : V), x = .ref a ∧ XfC X.K C ∧ PySem.W.findIn X.K (.ref C) f = some none ∧ H1 a = some (exo a C (some d)) ∧ H1 d = some (exd d fs) ∧ fs.lookup f = some v ∧ Q v H1) := by
  refine ⟨fun pins s σ H Q I h => ?_⟩
  refine attr_of hb (thn (he.run pins s σ H _ I h) fun u s1 ⟨x, H1, I1, rx, a, d, C, fs, v, ex, T, hno, ea, ed, l, q⟩ => ?_)
  subst ex
  obtain rfl : u = Value.ref a := rx
  obtain ⟨t1, ho⟩ := exo_at I1.hok ea
  obtain ⟨mA, hns, hr⟩ := exd_at I1.hok ed
  obtain ⟨od, hod, hl⟩ := lookIn_ns hns
  obtain ⟨u, hu, ru⟩ := RelO.some_of (v := v) (o := mA f) (by rw [← l]; exact hr f)
  have J : PySem.W.InstAt s1.heap a { cls := .ref C, dict := some d, data := .fields #[.ref t1, .none, .none, .none, .bool false, .none] } C (some od) := ⟨ho, rfl, rfl, hod⟩
  exact HandSPX.exc_get I1.kIn J T.ga T.gg T.exC (PySem.W.findObj_own T.hdC hno rfl (by rw [hl, hu])) (handed_of ru) ⟨v, H1, I1.tok _, ru, q⟩
def rIsV (K : PySem.W.Frag) : List V → Hp → VK → Prop := fun xs H Q => ∃ (a C : Addr) (d : Option Addr) (c : V) (cv : Value) (b : Bool), H a = some (exo a C d) ∧ (∀ dd, d = some dd → ∃ fs, H dd = some (exd dd fs)) ∧ XIs K C ∧ xs = [.ref a, c] ∧ (∀ u, RelV c u → u = cv) ∧ PySem.W.kitOne K (.ref C) cv = some b ∧ Q (.bl b) H
theorem call_isV : CallR X (.builtin "isinstance") (rIsV X.K) := by
  intro pins s σ H xs us Q I r h
  obtain ⟨a, C, d, c, cv, b, ha, hd, M, rfl, hcv, e, q⟩ := h
  cases r with
  | cons rx rr =>
    cases rr with
    | cons rt rr =>
      cases rr
      cases rx
      have ec := hcv _ rt
      subst ec
      obtain ⟨t1, ho⟩ := exo_at I.hok ha
      cases d with
      | none =>
        have J : PySem.W.InstAt s.heap a { cls := .ref C, dict := none, data := .fields #[.ref t1, .none, .none, .none, .bool false, .none] } C none := ⟨ho, rfl, rfl, trivial⟩
        exact PySem.W.kia_one (PySem.W.kitx_exc M.hcl M.hg M.hk M.hs M.ha M.hn M.ht M.hm) I.kIn J e (fun z => nomatch z) fun tk => ⟨.bl b, H, I.kept (t' := tk) fun _ _ z => z, rfl, q⟩
      | some dd =>
        obtain ⟨fs, hfs⟩ := hd dd rfl
        obtain ⟨mA, hns, _⟩ := exd_at I.hok hfs
        obtain ⟨od, hod, _⟩ := lookIn_ns hns
        have J : PySem.W.InstAt s.heap a { cls := .ref C, dict := some dd, data := .fields #[.ref t1, .none, .none, .none, .bool false, .none] } C (some od) := ⟨ho, rfl, rfl, hod⟩
        exact PySem.W.kia_one (PySem.W.kitx_exc M.hcl M.hg M.hk M.hs M.ha M.hn M.ht M.hm) I.kIn J e (fun z => nomatch z) fun tk => ⟨.bl b, H, I.kept (t' := tk) fun _ _ z => z, rfl, q⟩
end
section
variable {X : Cx} {m : Md}
def tMkErr (C : Addr) (TI : List D → (List (Str × D) → Prop) → Prop) (Ts : TDs) : TD := fun env n K => Ts env n fun xs n1 => xs.length ≤ 900 ∧ TI xs fun fs => K (.exv C fs) n1
theorem v_mkErr {B nn ii : String} {bm : List Value} {C fI : Addr} {k : Nat} {fd : FuncData} {ps : List Str} {TI : List D → (List (Str × D) → Prop) → Prop} {x : Str} {e : Expr} {es : List Expr} {Ts : TDs} {p pos : Pos} (T : OexB X.K C B nn ii bm) (iC : PySem.W.findIn X.K (.ref C) "__init__" = some (some (.ref fI))) (tI : PySem.W.typeIn X.K (.ref fI) = some (.type "function"))
    (F1 : FnOk X.prog X.w X.K X.mg X.base CX0 k fI fd ps (spE C TI)) (hm : ∀ ds K K', (∀ fs, K fs → K' fs) → TI ds K → TI ds K') (hr : Room (k + 1) X.A) (hb : Binds X.K fd ps []) (hg : Gl X x) (hmg : X.mg x = some (.ref C)) (a : AV X m (e :: es) Ts)
    (hdb : (x == ("__debug__" : Str)) = false := by decide) (he : starEach (e :: es) X.env = (false, eval e X.env) :: starEach es X.env := by rfl) (hpl : (backTo pos (starEach es X.env)).any (·.1) = false := by rfl) :
    EV X m (.Call (.Name x p) (e :: es) [] pos) (tMkErr C TI Ts) := by
  obtain ⟨t, pa, h⟩ := a.ex
  refine ⟨fun env n K K' hk q => a.mono _ _ _ _ (fun xs n1 ⟨hl, q⟩ => ⟨hl, hm _ _ _ (fun fs z => hk _ _ z) q⟩) q, _, pe_mkErr T iC tI F1 hr hb hg hmg pa hdb he hpl, fun O σ H env n Q e s q => ?_⟩
  refine h O σ H env n _ e s (a.mono _ _ _ _ (fun xs n1 ⟨hl, q⟩ => ?_) q)
  intro vs H1 k1 s1 r1
  refine ⟨by rw [r1.length]; exact hl, fun a na => ?_⟩
  have e1 := e.kx k1 s1
  have nO := e1.new na
  have up : ∀ b o, H1 b = some o → (upd H1 a (exo a C none)) b = some o := fun b o h => by rw [upd_ne (ne_of_none h na)]; exact h
  refine ⟨a, vs, xs, O, rfl, upd_same, nO, fun b hb => ?_, r1.keep fun b o n h => ⟨up b o h, fun z => z.elim n (ne_of_none h na)⟩, hm _ _ _ (fun fs o => ?_) q⟩
  · cases z : H1 b with
    | none => exact absurd z (e1.old b hb)
    | some o => rw [up b o z]; exact fun z => nomatch z
  · intro H2 dx vfs kk nx ne ha hd rf
    rw [upd_ne ne] at nx
    have k2 : ∀ b o, H1 b = some o → H2 b = some o := fun b o h => kk b o (ne_of_none h na) (up b o h)
    exact ⟨rfl, o _ H2 (k1.trans fun b u _ h => k2 b u h) (m.keep n1 H1 H2 s1 fun a u _ h => k2 a u h) (.exv nO ha (e1.new nx) hd (rf.keep fun b u n h => ⟨h, fun z => n (.inl z)⟩))⟩
def tMkErr0 (C : Addr) : TD := fun _ n K => K (.exn C) n
theorem v_mkErr0 {C : Addr} {bmB : List Value} {B newId initId : String} {x : Str} {p pos : Pos} (F : ExcBaseFacts B newId initId bmB) (q : PySem.W.excIn X.K C bmB newId = true) (gC : X.mg x = some (.ref C)) (kC : PySem.W.keepIn X.K (.ref C) = true) (hg : Gl X x) (hdb : (x == ("__debug__" : Str)) = false := by decide) :
    EV X m (.Call (.Name x p) [] [] pos) (tMkErr0 C) := by
  refine ⟨fun env n K K' h q => h _ _ q, _, pe_mkErr0 F q gC kC hg hdb, fun O σ H env n Q e s q => ?_⟩
  intro a hp
  exact q _ _ (KX.new hp) (st_new s hp) (.exn (fun z => e.old a z hp) upd_same)
def tXfV (K : PySem.W.Frag) (f : Str) (Ta : TD) : TD := fun env n Q => Ta env n fun x n1 => ∃ C l v, x = .exv C l ∧ XfC K C ∧ PySem.W.findIn K (.ref C) f = some none ∧ l.lookup f = some v ∧ Q v n1
theorem v_xfv {f : Str} {o : Expr} {Ta : TD} {pos : Pos} (h : EV X m o Ta) (hab : attributeBase o f X.env (eval o X.env) = eval o X.env := by rfl) : EV X m (.Attribute o f pos) (tXfV X.K f Ta) := by
  obtain ⟨ta, po, ho⟩ := h.ex
  refine ⟨fun env n K K' hk q => h.mono _ _ _ _ (fun x n1 ⟨C, l, v, e1, e2, e3, e4, q⟩ => ⟨C, l, v, e1, e2, e3, e4, hk _ _ q⟩) q, _, pe_xfv po hab, fun O σ H env n Q e s q => ?_⟩
  refine ho O σ H env n _ e s (h.mono _ _ _ _ (fun x n1 ⟨C, l, v, e1, e2, e3, e4, q⟩ => ?_) q)
  intro v1 H1 k1 s1 r1
  subst e1
  cases id r1 with
  | exv n0 h0 n2 h2 s0 =>
    obtain ⟨w, hw, rw'⟩ := s0.look e4
    exact ⟨_, _, C, _, w, rfl, e2, e3, h0, h2, hw, q _ H1 k1 s1 rw'⟩
/-- isinstance(e, c), c a built-in or an own class -/
def tyOf (c : D) : Option Value := match c with
  | .ty s => some (.type s)
  | .ptr a => some (.ref a)
  | _ => none
def cIsV (K : PySem.W.Frag) : CD := fun xs Q => ∃ x c C cv b, xs = [x, c] ∧ (x = .exn C ∨ ∃ l, x = .exv C l) ∧ tyOf c = some cv ∧ XIs K C ∧ PySem.W.kitOne K (.ref C) cv = some b ∧ Q (.bl b)
theorem k_isV {KK : PySem.W.Frag} : CallD (rIsV KK) (cIsV KK) where
  mono := fun xs K K' h ⟨x, c, C, cv, b, e, q, t, M, hb, k⟩ => ⟨x, c, C, cv, b, e, q, t, M, hb, h _ k⟩
  run := fun m O H n vs xs Q gd old s r ⟨x, c, C, cv, b, e, hx, t, M, hb, k⟩ => by
    subst e
    cases r with
    | cons r1 r2 =>
      cases r2 with
      | cons r2 r3 =>
        cases r3
        rename_i v1 v2
        have hc : ∀ u, RelV v2 u → u = cv := fun u ru => by
          cases c with
          | ty s => cases r2; cases t; exact ru
          | ptr a => cases r2; cases t; exact ru
          | _ => cases t
        rcases hx with e | ⟨l, e⟩
        · subst e
          cases r1 with
          | exn n0 h0 => exact ⟨_, C, none, _, cv, b, h0, (fun _ z => nomatch z), M, rfl, hc, hb, k _ H KX.refl s (.bl _)⟩
        · subst e
          cases r1 with
          | exv n0 h0 n2 h2 s0 => exact ⟨_, C, some _, _, cv, b, h0, (fun dd z => by cases z; exact ⟨_, h2⟩), M, rfl, hc, hb, k _ H KX.refl s (.bl _)⟩
end
end DL

set_option Elab.async false
set_option linter.all false
set_option maxRecDepth 100000
set_option maxHeartbeats 1000000
/-! DL42: an own error's further fields, over any built-in base -/
namespace DL
open PySem L2
section
open PySem PySem.Spec PyProof.Rows PySem.W PySem.Calls PySem.HandSPX Builtin Builtin.ObjectAttr
variable {prog : Program} {w : World} {A : Around} {R : Result → Shared → Prop} {hp : Heap} {g : Array GenState} {d : Drawn} {t : Nat} {os : OsState}
theorem next_store {KK : W.Frag} {name : Str} {tk : Tok} {v : Value} {x C dx : Addr} {fv : Array Value} {cd : ClassData} {bm : List Value} {m0 : Str → Option Value} {nl : List Str}
    (X : KK.In hp) (hx : hp.get? x = some { cls := .ref C, dict := some dx, data := .fields fv }) (hns : hp.Ns1 dx m0) (hw : Within m0 nl) (hz : nl.length ≤ 1000) (hcd : W.clsIn KK C = some cd) (hm : cd.mro = .ref C :: bm) (hps : ∀ self, refuseLoop self "__setattr__" bm = pure ()) (hob : bm.contains (.type "object") = true)
    (hh : cd.hasDict = true) (ha : W.findIn KK (.ref C) name = some none)
    (hq : ∀ h' tk', (∀ b o, b ≠ dx → hp.get? b = some o → h'.get? b = some o) → h'.Ns1 dx (fun y => if y = name then some v else m0 y) → R (.ok (.ret .none)) ⟨h', g, d, tk', os⟩) :
    codeAny (model prog w) A (.call (.builtin "object.__setattr__") ⟨[.ref x, .str name tk, v], []⟩) R ⟨hp, g, d, t, os⟩ := by
  obtain ⟨oD, esD, epD, hoD, hdD, _⟩ := hns.count hw
  have J : W.InstAt hp x { cls := .ref C, dict := some dx, data := .fields fv } C (some oD) := ⟨hx, rfl, rfl, hoD⟩
  have inObj : W.mroIn KK C (.type "object") = some true := by
    unfold W.mroIn
    rw [hcd, Option.bind_some, hm, if_neg (by simp), List.contains_cons, hob, Bool.or_true]
  have isObj : W.Looks (model prog w) hp (isInstance (.ref x) (.type "object")) true := J.type.andThen (W.looks_mroIn X inObj)
  have SF := F.store_object
  refine codeAny_call_builtin SF.slot.plain SF.entry (@W.check_slot (model prog w) _ _ ⟨hp, g, d, t, os⟩ "object.__setattr__" "object" "__setattr__" (.ref x) [.str name tk, v] [] _ SF.kind SF.split isObj (SF.args (.ref x) (.str name tk) v) ?_)
  have theMro : W.Looks (model prog w) hp (mroOf (.ref C)) cd.mro := (W.looks_clsIn X hcd).andThen .now
  have noTaker : W.Looks (model prog w) hp (storeTaker? none) none := .now
  have theCls : W.Looks (model prog w) hp (classData C) cd := W.looks_clsIn X hcd
  have goes : ∀ self, refuseLoop self "__setattr__" cd.mro = pure () := fun self => by rw [hm, refuseLoop_ref]; exact hps self
  rw [W.osa_eq, refuse_eq]
  refine wpAny_bind (wpAny_bind (J.type.at (wpAny_bind (theMro.at ?_))))
  rw [goes]
  refine wpAny_pure (wpAny_bind (J.type.at (wpAny_bind ((W.looks_findIn X ha).at (wpAny_bind (noTaker.at ?_))))))
  show wpAny _ _ (storeInOwnDict (.ref x) (.ref C) (.str name tk) name v false) _ _ _
  obtain ⟨nm, bs, mro, ns, qn, hd, sn, sb, ab, col, del⟩ := cd
  dsimp only at hh
  subst hh
  unfold storeInOwnDict ownDictForStores
  repeat (first | with_reducible refine PySem.OEX.store_in_old hns hw hz ?_ | with_reducible refine wpAny_loadPart_at hx ?_ | with_reducible refine theCls.at ?_ | wp_step)
  intro h' tk' hn' hs
  exact hq h' tk' (fun b o hb ho => (hs.2 b hb).trans ho) hn'
end
section
open PySem PySem.Spec PyProof.Rows
variable {X : Cx} {pins : List (Addr × Obj)} {σ : L2.St} {H : Hp} {s : Shared} {a C dx : Addr} {fs : List (Str × V)} {f : Str} {y : V} {u : Value} {B n i : String} {bm : List Value}
theorem next_field {Q : Unit → Shared → Prop} {E : Value → Shared → Prop} {A : Around} (T : OexB X.K C B n i bm) (I : Inv X pins σ H s) (e : H a = some (exo a C (some dx))) (ed : H dx = some (exd dx fs)) (hl : fs.length ≤ 900) (hno : PySem.W.findIn X.K (.ref C) f = some none) (ry : RelV y u)
    (h : ∀ s', Inv X pins σ (upd H dx (exd dx ((f, y) :: fs))) s' → Q () s') : wpAny (model X.prog X.w) A (setAttr (.ref a) f u) Q E s := by
  obtain ⟨nm, q, N, bs, sn, sub, ab, col, dd, k0, k1, k2, k3, k5, hC⟩ := T.cls
  have hcl : PySem.W.clsIn X.K C = some { name := nm, bases := bs, mro := .ref C :: bm, ns := N, qualname := q, hasDict := true, slotNames := sn, subclasses := sub, abstract := ab, collection := col, hasDel := false } := by
    unfold PySem.W.clsIn
    rw [hC]
  obtain ⟨t1, ho⟩ := exo_at I.hok e
  obtain ⟨mA, hns, rel⟩ := exd_at I.hok ed
  have hw := within_of rel
  obtain ⟨hp, g, d, t, os⟩ := s
  obtain ⟨oD, _, _, hoD, _, _⟩ := hns.count hw
  refine PySem.W.set_plain I.kIn (ox := { cls := .ref C, dict := some dx, data := .fields #[.ref t1, .none, .none, .none, .bool false, .none] }) (od := some oD) ⟨ho, rfl, rfl, hoD⟩ T.sa ?_
  refine next_store I.kIn ho hns hw (by rw [List.length_map]; omega) hcl rfl T.pass T.obj rfl hno (fun h' tk' k hn => ?_)
  have hd : ∃ o, h'.get? dx = some o := by
    obtain ⟨o, _, _, e', _⟩ := hn
    exact ⟨o, e'⟩
  exact h _ (I.write (t' := tk') (x := dx) (e := dx) (o := exd dx ((f, y) :: fs)) (by rw [ed]; exact True.intro) (.inl rfl) k hd (exd_ok hn (relO_put ry rel)))
/-- self.f = e, the first field or a further one -/
def tOst2 (K : PySem.W.Frag) (B n i : String) (bm : List Value) (f : Str) (to te : TE) : TS := fun D σ H => te σ H fun y H1 => to σ H1 fun x H2 => ∃ a C : Addr, x = .ref a ∧ OexB K C B n i bm ∧ PySem.W.findIn K (.ref C) f = some none ∧
  ((H2 a = some (exo a C none) ∧ ∀ dx, H2 dx = none → dx ≠ a → D.nx σ (upd (upd H2 dx (exd dx [(f, y)])) a (exo a C (some dx)))) ∨
    ∃ (dx : Addr) (fs : List (Str × V)), H2 a = some (exo a C (some dx)) ∧ H2 dx = some (exd dx fs) ∧ fs.length ≤ 900 ∧ D.nx σ (upd H2 dx (exd dx ((f, y) :: fs))))
theorem ps_ost2 {o e : Expr} {to te : TE} {p' pos : Pos} (ho : PE X o to) (he : PE X e te) (hs : swapsWith e (some (.Attribute o f p')) pos.line X.env = pure false := by rfl) : PS X (.Assign [.Attribute o f p'] e pos) (tOst2 X.K B n i bm f to te) := by
  refine ⟨fun pins s σ H D I h => ?_⟩
  refine plainObj_wpAny_Assign_Attribute (thn (he.run pins s σ H _ I h) fun v s1 ⟨y, H1, I1, r1, q1⟩ => thn (ho.run pins s1 σ H1 _ I1 q1) fun u s2 ⟨x, H2, I2, r2, a, C, ex, T, hno, q⟩ => ?_) hs
  subst ex
  obtain rfl : u = Value.ref a := r2
  rcases q with ⟨ea, q⟩ | ⟨dx, fs, ea, ed, hl, q⟩
  · exact first_field T I2 ea hno r1 fun dx s' nx ne J => ⟨σ, _, J, q dx nx ne⟩
  · exact next_field T I2 ea ed hl hno r1 fun s' J => ⟨σ, _, J, q⟩
end
end DL

set_option Elab.async false
set_option linter.all false
set_option maxRecDepth 100000
set_option maxHeartbeats 1000000
/-! DL43: partition, startswith; C.m(..) of a classmethod; c(..), c a slot that holds a class -/
namespace DL
open PySem L2
open PySem.Spec PyProof.Rows
section
variable {X : Cx} {m : Md}
def dPart : D → List D → (D → Prop) → Prop := fun x xs K => ∃ a b, x = .str a ∧ xs = [.str b] ∧ (b.length == 0) = false ∧ a.length ≤ sizeLine ∧ K (.tup [.str (Txt.partition a b).1, .str (Txt.partition a b).2.1, .str (Txt.partition a b).2.2])
theorem md_part : MtD (fun x xs H Q => ∃ a b, x = .str a ∧ xs = [.str b] ∧ (b.length == 0) = false ∧ a.length ≤ sizeLine ∧ ∀ p, H p = none → Q (.ref p) (upd H p (.tup [.str (Txt.partition a b).1, .str (Txt.partition a b).2.1, .str (Txt.partition a b).2.2]))) dPart where
  mono := fun x xs K K' h ⟨a, b, e1, e2, e3, e4, k⟩ => ⟨a, b, e1, e2, e3, e4, h _ k⟩
  run := fun m O H n v vs x xs Q gd old st r rs ⟨a, b, e1, e2, e3, e4, k⟩ => by
    subst e1; subst e2
    cases r
    cases rs with
    | cons r1 r2 =>
      cases r2
      cases r1
      exact ⟨a, b, rfl, rfl, e3, e4, fun p np => k _ _ (KX.new np) (st_new st np) (.tup (fun z => old p z np) upd_same (.cons (.str _) (.cons (.str _) (.cons (.str _) .nil))))⟩
def dStarts : D → List D → (D → Prop) → Prop := fun x xs K => ∃ a b, x = .str a ∧ xs = [.str b] ∧ K (.bl (Txt.startswith a b))
theorem md_starts : MtD (fun x xs H Q => ∃ a b, x = .str a ∧ xs = [.str b] ∧ Q (.bl (Txt.startswith a b)) H) dStarts where
  mono := fun x xs K K' h ⟨a, b, e1, e2, k⟩ => ⟨a, b, e1, e2, h _ k⟩
  run := fun m O H n v vs x xs Q gd old st r rs ⟨a, b, e1, e2, k⟩ => by
    subst e1; subst e2
    cases r
    cases rs with
    | cons r1 r2 =>
      cases r2
      cases r1
      exact ⟨a, b, rfl, rfl, k _ H KX.refl st (.bl _)⟩
theorem v_partition {o e : Expr} {apos cpos : Pos} {Ta : TD} {Ts : TDs} (a : EV X m o Ta) (b : AV X m [e] Ts) (hbase : attributeBase o "partition" X.env (eval o X.env) = eval o X.env := by rfl)
    (hfew : ((backTo cpos (starEach [e] X.env)).all (fun x => !x.1) && (backToKw cpos (keywordEach [] X.env)).all (fun x => x.1.isSome)
      && decide (([e] : List Expr).length + ([] : List Keyword).length + (if ([] : List Keyword).isEmpty then 0 else 1) < 30)) = true := by rfl)
    (hline : (apos.endLine == cpos.line) = true := by rfl) (hs : starEach [e] X.env = (false, eval e X.env) :: starEach [] X.env := by rfl) (hplain : (backTo cpos (starEach [] X.env)).any (·.1) = false := by rfl) : EV X m (.Call (.Attribute o "partition" apos) [e] [] cpos) (tBmS dPart Ta Ts) :=
  v_bmS mt_partition md_part PySem.F.slot_str_partition PySem.F.type_str_partition a b hbase hfew hline hs hplain
theorem v_startswith {o e : Expr} {apos cpos : Pos} {Ta : TD} {Ts : TDs} (a : EV X m o Ta) (b : AV X m [e] Ts) (hbase : attributeBase o "startswith" X.env (eval o X.env) = eval o X.env := by rfl)
    (hfew : ((backTo cpos (starEach [e] X.env)).all (fun x => !x.1) && (backToKw cpos (keywordEach [] X.env)).all (fun x => x.1.isSome)
      && decide (([e] : List Expr).length + ([] : List Keyword).length + (if ([] : List Keyword).isEmpty then 0 else 1) < 30)) = true := by rfl)
    (hline : (apos.endLine == cpos.line) = true := by rfl) (hs : starEach [e] X.env = (false, eval e X.env) :: starEach [] X.env := by rfl) (hplain : (backTo cpos (starEach [] X.env)).any (·.1) = false := by rfl) : EV X m (.Call (.Attribute o "startswith" apos) [e] [] cpos) (tBmS dStarts Ta Ts) :=
  v_bmS mt_startswith md_starts PySem.F.slot_str_startswith PySem.F.type_str_startswith a b hbase hfew hline hs hplain
/-! ### c(..), c a slot -/
theorem pe_makeL {CX : CXT} {k i : Nat} {f C : Addr} {fd : FuncData} {ps : List Str} {sp : Sp} {dvs : List V} {ds : List Value} {E : XK} {x : Str} {p pos : Pos} {e : Expr} {es : List Expr} {t : TA} (M : Mk X.K C f) (F : FnOk X.prog X.w X.K X.mg X.base CX k f fd ps sp) (hr : Room (k + 1) X.A) (hN : X.N[i]? = some x) (hv : Vis X.env.scope x) (hb : Binds X.K fd ps ds) (hd : Vals dvs ds) (hx : Passes CX X E) (ha : PA X (e :: es) t)
    (hdb : (x == ("__debug__" : Str)) = false := by decide) (hcd : (x == ("__classdict__" : Str)) = false := by decide) (he : starEach (e :: es) X.env = (false, eval e X.env) :: starEach es X.env := by rfl) (hpl : (backTo pos (starEach es X.env)).any (·.1) = false := by rfl) :
    PE X (.Call (.Name x p) (e :: es) [] pos) (fun σ H Q => σ[i]? = some (some (.ref C)) ∧ tMake C sp dvs E t σ H Q) := by
  refine ⟨fun pins s σ H Q I h => ?_⟩
  obtain ⟨hs, ht⟩ := h
  refine wpAny_Call_Name_kw (thn ((pe_var (pos := p) hN hv hdb hcd).run pins s σ H (fun v H1 => v = .ref C ∧ H1 = H) I ⟨.ref C, hs, rfl, rfl⟩) fun u s1 ⟨v, H1, I1, r1, q1⟩ => ?_)
  obtain ⟨ev, eH⟩ := q1
  subst ev
  rw [eH] at I1
  obtain rfl : u = Value.ref C := r1
  refine PySem.W.callWith_K (h₀ := X.base) I.ok.mod.kin M.kp (thn (ha.run pos pins s1 σ H _ I1 ht) fun us s2 ⟨vs, H2, I2, r, q⟩ => ⟨I2.kIn, ?_⟩) he hpl
  exact run_make M F hr hb hd hx I2 r q
def tMakeDL (i : Nat) (C : Addr) (T : List D → (List (Str × D) → Prop) → Prop) (Ts : TDs) : TD := fun env n K => env[i]? = some (.val (.ptr C)) ∧ tMakeD C T Ts env n K
theorem v_makeL {C : Addr} {k i : Nat} {f : Addr} {fd : FuncData} {ps : List Str} {T : List D → (List (Str × D) → Prop) → Prop} {x : Str} {p pos : Pos} {e : Expr} {es : List Expr} {Ts : TDs} (M : Mk X.K C f) (F : FnOk X.prog X.w X.K X.mg X.base CX0 k f fd ps (spI C T)) (hm : ∀ ds K K', (∀ fs, K fs → K' fs) → T ds K → T ds K') (hr : Room (k + 1) X.A) (hN : X.N[i]? = some x) (hv : Vis X.env.scope x) (hb : Binds X.K fd ps []) (a : AV X m (e :: es) Ts)
    (hdb : (x == ("__debug__" : Str)) = false := by decide) (hcd : (x == ("__classdict__" : Str)) = false := by decide) (he : starEach (e :: es) X.env = (false, eval e X.env) :: starEach es X.env := by rfl) (hpl : (backTo pos (starEach es X.env)).any (·.1) = false := by rfl) : EV X m (.Call (.Name x p) (e :: es) [] pos) (tMakeDL i C T Ts) := by
  obtain ⟨t, pa, h⟩ := a.ex
  refine ⟨fun env n K K' hk q => ⟨q.1, a.mono _ _ _ _ (fun xs n1 q => hm _ _ _ (fun fs z => hk _ _ z) q) q.2⟩, _, pe_makeL M F hr hN hv hb .nil pass0 pa hdb hcd he hpl, fun O σ H env n Q e s q => ⟨?_, ?_⟩⟩
  · obtain ⟨v, h1, h2⟩ := e.val i _ q.1
    cases h2
    exact h1
  · refine h O σ H env n _ e s (a.mono _ _ _ _ (fun xs n1 q => ?_) q.2)
    intro vs H1 k1 s1 r1
    rw [List.append_nil]
    exact make_q hm (e.kx k1 s1) k1 s1 r1 q
/-! ### C.m(..), m a classmethod -/
def tCMethD (C : Addr) (T : FT) (Ta : TD) (Ts : TDs) : TD := fun env n K => Ta env n fun x n1 => x = .ptr C ∧ Ts env n1 fun xs n2 => T (.ptr C :: xs) n2 K
theorem v_cmeth {pl : Sem Bool} {C p : Addr} {mc : Value} {mn : Str} {k : Nat} {f : Addr} {fd : FuncData} {ps : List Str} {T : FT} {o e : Expr} {es : List Expr} {Ta : TD} {Ts : TDs} {apos pos : Pos} (a : EV X m o Ta) (r : ClX.CRead X.K C mc) (c : ClX.CMet X.K C mc mn p f) (F : FnOk X.prog X.w X.K X.mg X.base CX0 k f fd ps (spM m T)) (hm : FMono T) (hr : Room k X.A) (hb : Binds X.K fd ps []) (b : AV X m (e :: es) Ts)
    (hst : starEach (e :: es) X.env = (false, eval e X.env) :: starEach es X.env := by rfl) (hpl : (backTo pos (starEach es X.env)).any (·.1) = false := by rfl)
    (ht : eval (.Call (.Attribute o mn apos) (e :: es) [] pos) X.env = (do
      let ov ← eval o X.env
      standAt apos.atName
      let (f, first) ← holding [ov] (getMethod ov mn pl)
      callWith pos f first (backTo pos (starEach (e :: es) X.env)) (backToKw pos (keywordEach [] X.env))) := by rfl) : EV X m (.Call (.Attribute o mn apos) (e :: es) [] pos) (tCMethD C T Ta Ts) := by
  obtain ⟨ta, po, ho⟩ := a.ex
  obtain ⟨t, pa, h⟩ := b.ex
  refine ⟨fun env n K K' hk q => a.mono _ _ _ _ (fun d n1 ⟨e1, q⟩ => ⟨e1, b.mono _ _ _ _ (fun xs n2 q => hm _ _ _ _ hk q) q⟩) q, _, ClX.pe_cmeth po r c (F.raw hb .nil) hr pass0 pa hst hpl ht, fun O σ H env n Q e s q => ?_⟩
  refine ho O σ H env n _ e s (a.mono _ _ _ _ (fun d n1 ⟨e1, q⟩ => ?_) q)
  intro v H1 k1 s1 r1
  subst e1
  cases r1
  refine ⟨rfl, ?_⟩
  have e1 := e.kx k1 s1
  refine h O σ H1 env n1 _ e1 s1 (b.mono _ _ _ _ (fun xs n2 q => ?_) q)
  intro vs H2 k2 s2 r2
  show spM m T ((V.ref C :: vs) ++ []) H2 Q E0
  rw [List.append_nil]
  exact call_q hm (e1.kx k2 s2) (k1.trans k2) s2 (.cons (.ptr _) r2) q
end
end DL

set_option Elab.async false
set_option linter.all false
set_option maxRecDepth 100000
set_option maxHeartbeats 1000000
/-! DL44: int of a text; what a whole number's text is -/
namespace DL
open PySem L2
def cIntS : CD := fun xs K => ∃ a n, xs = [.str a] ∧ PySem.intText? a = some n ∧ a.length ≤ 640 ∧ K (.int n)
theorem k_intS : CallD (fun xs H Q => ∃ a n, xs = [.str a] ∧ PySem.intText? a = some n ∧ a.length ≤ 640 ∧ Q (.int n) H) cIntS where
  mono := fun xs K K' h ⟨a, n, e, b, c, k⟩ => ⟨a, n, e, b, c, h _ k⟩
  run := fun m O H n vs xs Q gd old st rs ⟨a, i, e, b, c, k⟩ => by
    subst e
    cases rs with
    | cons r1 r2 =>
      cases r2
      cases r1
      exact ⟨a, i, rfl, b, c, k _ H KX.refl st (.int _)⟩
/-! ### a whole number's text -/
def numZ (i : Int) : Str := Str.ofString (toString i)
theorem numZ_nat (n : Nat) : (numZ (n : Int)).cps.toList = TL.numL n := TL.tl_num n
theorem numZ_neg (n : Nat) : (numZ (-((n + 1 : Nat) : Int))).cps.toList = 45 :: TL.numL (n + 1) := by
  have e : toString (-((n + 1 : Nat) : Int)) = "-" ++ toString (((n + 1 : Nat)) : Int) := rfl
  have h := TL.tl_num (n + 1)
  have h1 : (Str.ofString (toString (((n + 1 : Nat)) : Int))).cps.toList = TL.numL (n + 1) := h
  rw [PyProof.Rows.signs_ofString] at h1
  unfold numZ
  rw [e, PyProof.Rows.signs_ofString, String.toList_append, List.map_append, h1]
  rfl
theorem numZ_cases (i : Int) : (∃ n : Nat, i = n ∧ (numZ i).cps.toList = TL.numL n) ∨ ∃ n : Nat, i = -((n + 1 : Nat) : Int) ∧ (numZ i).cps.toList = 45 :: TL.numL (n + 1) := by
  by_cases h : 0 ≤ i
  · exact .inl ⟨i.toNat, by omega, by rw [show i = ((i.toNat : Nat) : Int) by omega]; exact numZ_nat _⟩
  · have e : i = -((((-i).toNat - 1) + 1 : Nat) : Int) := by omega
    exact .inr ⟨(-i).toNat - 1, e, by rw [e]; have := numZ_neg ((-i).toNat - 1); rw [show (-(-(((-i).toNat - 1 + 1 : Nat) : Int))).toNat - 1 = (-i).toNat - 1 by omega]; exact this⟩
theorem numL_head : ∀ n : Nat, 0 < n → ∃ c r, TL.numL n = c :: r ∧ c ≠ 48 := fun n => by
  induction n using Nat.strongRecOn with
  | _ n ih =>
    intro h0
    by_cases h : n < 10
    · exact ⟨48 + n, [], TL.numL_lt h, by omega⟩
    · obtain ⟨c, r, e, hc⟩ := ih (n / 10) (by omega) (by omega)
      exact ⟨c, r ++ [48 + n % 10], by rw [TL.numL_step (by omega), e]; rfl, hc⟩
theorem numZ_chars (i : Int) : ∀ c ∈ (numZ i).cps.toList, c = 45 ∨ (48 ≤ c ∧ c ≤ 57) := fun c hc => by
  rcases numZ_cases i with ⟨n, _, e⟩ | ⟨n, _, e⟩ <;> rw [e] at hc
  · exact .inr (TL.numL_digits n c hc)
  · rcases List.mem_cons.mp hc with h | h
    · exact .inl h
    · exact .inr (TL.numL_digits _ c h)
theorem numZ_len {i : Int} (h : i.natAbs < 10 ^ 31) : (numZ i).cps.toList.length ≤ 32 := by
  rcases numZ_cases i with ⟨n, e, e2⟩ | ⟨n, e, e2⟩ <;> rw [e2]
  · exact Nat.le_trans (TL.numL_len (k := 31) (by decide) (by omega)) (by decide)
  · rw [List.length_cons]
    have := TL.numL_len (n := n + 1) (k := 31) (by decide) (by omega)
    omega
theorem numZ_read {i : Int} (h : i.natAbs < 10 ^ 31) : PySem.intText? (numZ i) = some i := by
  have hl := numZ_len h
  have e0 : (numZ i).length = (numZ i).cps.toList.length := rfl
  rcases numZ_cases i with ⟨n, e, e2⟩ | ⟨n, e, e2⟩
  · have := PySem.intText_digits (x := numZ i) (by rw [e2]; exact TL.numL_digits n) (by rw [e2]; exact TL.numL_ne n) (by omega)
    rw [this, e2, TL.numL_val, e]
  · have := PySem.intText_neg (x := numZ i) e2 (TL.numL_digits _) (TL.numL_ne _) (by omega)
    rw [this, TL.numL_val, e]
theorem starts_one (z : Str) (c : Nat) (y : Str) (hy : y.cps.toList = [c]) : Txt.startswith z y = decide (z.cps.toList.head? = some c) := by
  have hl : y.length = 1 := by
    show y.cps.toList.length = 1
    rw [hy]
    rfl
  have hz : z.length = z.cps.toList.length := rfl
  unfold PySem.Txt.startswith
  rw [PySem.StrLaws.subAt_eq, hl, hy, List.drop_zero, hz]
  cases z.cps.toList with
  | nil => rfl
  | cons a r =>
    show (decide (0 + 1 ≤ (a :: r).length) && ([a] == [c])) = decide (some a = some c)
    rw [decide_eq_true (by rw [List.length_cons]; omega), Bool.true_and]
    by_cases h : a = c
    · subst h
      simp
    · simp [h]
end DL

set_option Elab.async false
set_option linter.all false
set_option maxRecDepth 100000
set_option maxHeartbeats 1000000
/-! DL45: C.m(k = v, ..), m a classmethod -/
namespace DL
open PySem L2
section
variable {X : Cx} {m : Md}
theorem run_fnkC {k : Nat} {f : Addr} {fd : FuncData} {ps ks : List Str} {sp : Sp} {g : List Value → List Value → List Value} {gV : List V → List V → List V} {pins : List (Addr × Obj)} {σ : L2.St} {H : Hp} {s : Shared} {Q : VK} {us ws : List Value} {vs zs : List V} (F : FnOk X.prog X.w X.K X.mg X.base CX0 k f fd ps sp) (hr : Room k X.A) (hb : KBinds X.K fd ps ks g gV)
    (I : Inv X pins σ H s) (r : Vals vs us) (rz : Vals zs ws) (h : sp (gV vs zs) H Q E0) : codeAny (model X.prog X.w) X.A (.call (.ref f) ⟨us, ks.zip ws⟩) (fun r s' => match r with | .ok (.ret v) => EP X pins σ Q v s' | .ok _ => False | .error e => X.xe e s') s := by
  have r2 := hb.rel r rz
  have hl : (g us ws).length = ps.length := by rw [← r2.length]; exact F.len _ _ _ _ h
  refine codeAny_mono (F.run X.A X.stack s H ⟨us, ks.zip ws⟩ (g us ws) (gV vs zs) Q E0 hr I.env0 (hb.to s us ws I.kIn hl) r2 h) fun r s' hq => ?_
  cases r with
  | error e => exact pass0 pins σ H s e s' I hq
  | ok fl =>
    cases fl with
    | ret u => exact I.after hq
    | next => exact False.elim hq
    | brk => exact False.elim hq
    | cont => exact False.elim hq
theorem pe_cmethK {pl : Sem Bool} {C p f : Addr} {mc : Value} {mn : Str} {k : Nat} {fd : FuncData} {ps ks : List Str} {sp : Sp} {g : List Value → List Value → List Value} {gV : List V → List V → List V} {o : Expr} {kws : List Keyword} {ta : TE} {tk : TA} {apos pos : Pos} (he : PE X o ta) (r : ClX.CRead X.K C mc) (c : ClX.CMet X.K C mc mn p f) (F : FnOk X.prog X.w X.K X.mg X.base CX0 k f fd ps sp) (hr : Room k X.A) (hb : KBinds X.K fd ps ks g gV) (hkw : PK X kws tk)
    (hall : (backToKw pos (keywordEach kws X.env)).all (·.1.isSome) = true := by rfl) (hks : (backToKw pos (keywordEach kws X.env)).filterMap (·.1) = ks := by rfl)
    (hpl : ((backTo pos (starEach [] X.env)).any (·.1) || (backToKw pos (keywordEach kws X.env)).any (·.1.isNone)) = false := by rfl)
    (ht : eval (.Call (.Attribute o mn apos) [] kws pos) X.env = (do
      let ov ← eval o X.env
      standAt apos.atName
      let (f, first) ← holding [ov] (getMethod ov mn pl)
      callWith pos f first (backTo pos (starEach [] X.env)) (backToKw pos (keywordEach kws X.env))) := by rfl) :
    PE X (.Call (.Attribute o mn apos) [] kws pos) (fun σ H Q => ta σ H fun x H1 => x = .ref C ∧ tk σ H1 fun zs H2 => sp (gV [x] zs) H2 Q E0) := by
  refine ⟨fun pins s σ H Q I h => ?_⟩
  refine PySem.W.methodCall_KW (pl := pl) (thn (he.run pins s σ H _ I h) fun u s1 ⟨x, H1, I1, rx, ex, q⟩ => ?_) ht
  subst ex
  obtain rfl : u = Value.ref C := rx
  refine ClX.getmethcm_ok I1 r c fun s2 I2 => ?_
  refine PySem.W.callWith_of hpl (PySem.W.keeps_M c.fi) (PyProof.Rows.evalArgs_kw2_nil hall (thn (hkw.run pos _ s2 σ H1 _ I2 q) fun ws s3 ⟨zs, H2, I3, rz, q2⟩ => ⟨⟨ClX.pin_at I3, I3.kIn⟩, ?_⟩))
  rw [hks]
  have z := wpAny_call (M := model X.prog X.w) (PySem.W.method_call (ClX.pin_at I3) (run_fnkC (us := [.ref C]) (vs := [.ref C]) F hr hb I3 (.cons rfl .nil) rz q2))
  exact thn z fun _ _ y => ClX.unpinE y
def tCMethKD (C : Addr) (gD : D → List D → List D) (T : FT) (Ta : TD) (Ts : TDs) : TD := fun env n K => Ta env n fun x n1 => x = .ptr C ∧ Ts env n1 fun zs n2 => T (gD x zs) n2 K
theorem v_cmethK {pl : Sem Bool} {C p : Addr} {mc : Value} {mn : Str} {k : Nat} {f : Addr} {fd : FuncData} {ps ks : List Str} {T : FT} {g : List Value → List Value → List Value} {gV : List V → List V → List V} {gD : D → List D → List D} {o : Expr} {kws : List Keyword} {Ta : TD} {Ts : TDs} {apos pos : Pos} (a : EV X m o Ta) (r : ClX.CRead X.K C mc) (c : ClX.CMet X.K C mc mn p f) (F : FnOk X.prog X.w X.K X.mg X.base CX0 k f fd ps (spM m T)) (hm : FMono T) (hr : Room k X.A) (hb : KBinds X.K fd ps ks g gV) (b : KV' X m kws Ts)
    (hgV : ∀ O H v d vs ds, R O H v d → Rs O H vs ds → Rs O H (gV [v] vs) (gD d ds))
    (hall : (backToKw pos (keywordEach kws X.env)).all (·.1.isSome) = true := by rfl) (hks : (backToKw pos (keywordEach kws X.env)).filterMap (·.1) = ks := by rfl)
    (hpl : ((backTo pos (starEach [] X.env)).any (·.1) || (backToKw pos (keywordEach kws X.env)).any (·.1.isNone)) = false := by rfl)
    (ht : eval (.Call (.Attribute o mn apos) [] kws pos) X.env = (do
      let ov ← eval o X.env
      standAt apos.atName
      let (f, first) ← holding [ov] (getMethod ov mn pl)
      callWith pos f first (backTo pos (starEach [] X.env)) (backToKw pos (keywordEach kws X.env))) := by rfl) : EV X m (.Call (.Attribute o mn apos) [] kws pos) (tCMethKD C gD T Ta Ts) := by
  obtain ⟨ta, po, ho⟩ := a.ex
  obtain ⟨t, pa, h⟩ := b.ex
  refine ⟨fun env n K K' hk q => a.mono _ _ _ _ (fun d n1 ⟨e1, q⟩ => ⟨e1, b.mono _ _ _ _ (fun xs n2 q => hm _ _ _ _ hk q) q⟩) q, _, pe_cmethK (pl := pl) po r c F hr hb pa hall hks hpl ht, fun O σ H env n Q e s q => ?_⟩
  refine ho O σ H env n _ e s (a.mono _ _ _ _ (fun d n1 ⟨e1, q⟩ => ?_) q)
  intro v H1 k1 s1 r1
  subst e1
  cases r1
  refine ⟨rfl, ?_⟩
  have e1 := e.kx k1 s1
  refine h O σ H1 env n1 _ e1 s1 (b.mono _ _ _ _ (fun xs n2 q => ?_) q)
  intro vs H2 k2 s2 r2
  exact call_q hm (e1.kx k2 s2) (k1.trans k2) s2 (hgV _ _ _ _ _ _ (.ptr _) r2) q
end
end DL

set_option Elab.async false
set_option linter.all false
set_option maxRecDepth 100000
set_option maxHeartbeats 1000000
/-! DL46: for x, y in zip(own, own): two own lists walked side by side; they stand still through the loop -/
namespace DL
open PySem L2
theorem it_zipO {K : PySem.W.Frag} {O : Addr → Prop} {H1 : Hp} {a b : Addr} {xs ys : List V} {ds es : List D} (r : Rs O H1 xs ds) (s : Rs O H1 ys es) :
    ∃ (G : Hp → Prop) (Y : Nat → Hp → V → Hp → Prop), Walk (Itz K a b) (zipD ds es).length G Y ∧ (∀ H2, H2 a = some (.lst xs) → H2 b = some (.lst ys) → G H2) ∧
    ∀ i H2 x H3, i < (zipD ds es).length → KX O H1 H2 → Y i H2 x H3 → ∃ d, (zipD ds es)[i]? = some d ∧ Same H2 H3 ∧ ∀ O' : Addr → Prop, (∀ a, O' a → H2 a ≠ none) → (∀ a o, ¬ O a → H1 a = some o → ¬ O' a) → R O' H3 x d := by
  have el : (zipD ds es).length = min xs.length ys.length := by unfold zipD; rw [List.length_map, List.length_zip, r.length, s.length]
  refine ⟨fun H => SqL K H a xs ∧ SqL K H b ys, YPair (fun i => xs[i]?) (fun i => ys[i]?), by rw [el]; exact walk_zip rfl, fun H2 h1 h2 => ⟨.inl (.inl h1), .inl (.inl h2)⟩, fun i H2 x H3 hi k y => ?_⟩
  have hi' : i < min ds.length es.length := by rw [el, r.length, s.length] at hi; exact hi
  obtain ⟨v, d, h1, h2, h3⟩ := rs_lt r (show i < ds.length by omega)
  obtain ⟨w, e, g1, g2, g3⟩ := rs_lt s (show i < es.length by omega)
  obtain ⟨t, x1, x2, e1, nt, e2, f1, f2⟩ := y
  replace f1 : xs[i]? = some x1 := f1
  replace f2 : ys[i]? = some x2 := f2
  rw [h1] at f1
  rw [g1] at f2
  cases f1; cases f2
  subst e1; subst e2
  refine ⟨.tup [d, e], ?_, new_same nt, fun O' old q => pair_ok nt old (r_move h3 k q) (r_move g3 k q)⟩
  unfold zipD
  rw [List.getElem?_map, show (ds.zip es)[i]? = some (d, e) from List.getElem?_zip_eq_some.mpr ⟨h2, g2⟩]
  rfl
section
variable {X : Cx} {m : Md}
theorem get2 {env : Sls} {i j k : Nat} {s t u : Sl} (hi : i < env.length) (hj : j < env.length) (h : ((env.set i s).set j t)[k]? = some u) : (k = j ∧ u = t) ∨ (k ≠ j ∧ k = i ∧ u = s) ∨ (k ≠ j ∧ k ≠ i ∧ env[k]? = some u) := by
  rcases own_get h (by rw [List.length_set]; exact hj) with z | ⟨z1, z2⟩
  · exact .inl z
  · rcases own_get z2 hi with ⟨y1, y2⟩ | ⟨y1, y2⟩
    · exact .inr (.inl ⟨z1, y1, y2⟩)
    · exact .inr (.inr ⟨z1, y1, y2⟩)
theorem get2_o {env : Sls} {i j k : Nat} {s t : Sl} (h1 : k ≠ i) (h2 : k ≠ j) : ((env.set i s).set j t)[k]? = env[k]? := by
  rw [List.getElem?_set_ne (fun z => h2 z.symm), List.getElem?_set_ne (fun z => h1 z.symm)]
theorem get2_i {env : Sls} {i j : Nat} {s t : Sl} (hij : i ≠ j) (hi : i < env.length) : ((env.set i s).set j t)[i]? = some s := by
  rw [List.getElem?_set_ne (fun z => hij z.symm), List.getElem?_set_self hi]
theorem get2_j {env : Sls} {i j : Nat} {s t : Sl} (hj : j < env.length) : ((env.set i s).set j t)[j]? = some t := List.getElem?_set_self (by rw [List.length_set]; exact hj)
/-- two own lists, held -/
abbrev hold2 (env : Sls) (i j : Nat) (a b : Addr) : Sls := (env.set i (.val (.ptr a))).set j (.val (.ptr b))
abbrev give2 (env : Sls) (i j : Nat) (ds es : List D) : Sls := (env.set i (.own (.lst ds))).set j (.own (.lst es))
abbrev FmH (F : Fm) (H : Hp) (O : Addr → Prop) (a b : Addr) : Fm := ⟨H, fun c => F.Kp c ∨ c = a ∨ c = b ∨ (H c ≠ none ∧ ¬ O c), fun c => F.O c ∨ c = a ∨ c = b⟩
section
variable {F : Fm} {σ σ' : L2.St} {H H' : Hp} {env env' : Sls} {i j : Nat} {a b : Addr} {ds es : List D} {xs ys : List V}
theorem EO0.hold (e : EO0 m F σ H env) (hij : i ≠ j) (hi : env[i]? = some (.own (.lst ds))) (hj : env[j]? = some (.own (.lst es))) (ga : σ[i]? = some (some (.ref a))) (gb : σ[j]? = some (some (.ref b))) (ha : H a = some (.lst xs)) (hb : H b = some (.lst ys)) : EO0 m (FmH F H (OO F.O env σ) a b) σ H (hold2 env i j a b) := by
  have li : i < env.length := (List.getElem?_eq_some_iff.mp hi).1
  have lj : j < env.length := (List.getElem?_eq_some_iff.mp hj).1
  have oa : ownA env σ a := ⟨i, _, hi, ga⟩
  have ob : ownA env σ b := ⟨j, _, hj, gb⟩
  have own : ∀ {k : Nat} {w : OwnS}, (hold2 env i j a b)[k]? = some (.own w) → env[k]? = some (.own w) ∧ k ≠ i ∧ k ≠ j := by
    intro k w q
    rcases get2 li lj q with ⟨_, z⟩ | ⟨_, _, z⟩ | ⟨z1, z2, z3⟩
    · cases z
    · cases z
    · exact ⟨z3, z2, z1⟩
  have o1 : ∀ c, ownA (hold2 env i j a b) σ c → ownA env σ c ∧ c ≠ a ∧ c ≠ b := by
    rintro c ⟨k, w, h1, h2⟩
    obtain ⟨q1, q2, q3⟩ := own h1
    exact ⟨⟨k, w, q1, h2⟩, fun z => q2 (e.un k i w _ a q1 hi (z ▸ h2) ga), fun z => q3 (e.un k j w _ b q1 hj (z ▸ h2) gb)⟩
  have oo : ∀ c, OO (FmH F H (OO F.O env σ) a b).O (hold2 env i j a b) σ c → OO F.O env σ c := by
    rintro c (z | z)
    · rcases z with z | z | z
      · exact .inl z
      · exact .inr (z ▸ oa)
      · exact .inr (z ▸ ob)
    · exact .inr (o1 c z).1
  have kk : ∀ c o, ¬ OO F.O env σ c → H c = some o → H c = some o ∧ ¬ OO (FmH F H (OO F.O env σ) a b).O (hold2 env i j a b) σ c := fun c o n q => ⟨q, fun z => n (oo c z)⟩
  refine ⟨⟨by rw [List.length_set, List.length_set]; exact e.ee.len, fun c h => .inl (.inl (e.gd c h)), fun c h => e.ee.old c (oo c h), fun k d q => ?_, fun k w q => ?_⟩, fun c h => .inl (e.gd c h), fun c h => ?_, fun c h => ?_, fun c o _ _ h => h, fun c h => ?_, fun k l w x c h1 h2 h3 h4 => e.un k l w x c (own h1).1 (own h2).1 h3 h4⟩
  · rcases get2 li lj q with ⟨z1, z2⟩ | ⟨_, z1, z2⟩ | ⟨_, _, z⟩
    · cases z2; subst z1; exact ⟨_, gb, .ptr _⟩
    · cases z2; subst z1; exact ⟨_, ga, .ptr _⟩
    · obtain ⟨v, h1, h2⟩ := e.ee.val k d z
      exact ⟨v, h1, h2.keep kk⟩
  · obtain ⟨q1, _, _⟩ := own q
    obtain ⟨c, h1, h2, h3, h4⟩ := e.ee.own k w q1
    exact ⟨c, h1, h2.keep kk (fun _ z => z), .inr ⟨k, w, q, h1⟩, h4⟩
  · rcases h with h | h | h
    · exact .inl (e.o0 c h)
    · exact .inr (.inl h)
    · exact .inr (.inr (.inl h))
  · rcases h with h | h | h | h
    · exact fun z => e.new z h
    · show H c ≠ none
      rw [h, ha]; exact fun z => by cases z
    · show H c ≠ none
      rw [h, hb]; exact fun z => by cases z
    · exact h.1
  · obtain ⟨h1, h2, h3⟩ := o1 c h
    rintro (z | z | z | z)
    · exact e.ow c h1 z
    · exact h2 z
    · exact h3 z
    · exact z.2 (.inr h1)
/-- the lists stand -/
theorem EO0.held (e : EO0 m F σ H env) (hi : env[i]? = some (.own (.lst ds))) (hj : env[j]? = some (.own (.lst es))) (ga : σ[i]? = some (some (.ref a))) (gb : σ[j]? = some (some (.ref b))) (ha : H a = some (.lst xs)) (hb : H b = some (.lst ys)) (e' : EO0 m (FmH F H (OO F.O env σ) a b) σ' H' env') :
    H' a = some (.lst xs) ∧ H' b = some (.lst ys) ∧ KX (OO F.O env σ) H H' ∧ ∀ c o, ¬ OO F.O env σ c → H c = some o → ¬ OO (FmH F H (OO F.O env σ) a b).O env' σ' c := by
  obtain ⟨a0, q1, _, _, q4⟩ := e.ee.own i _ hi
  obtain ⟨b0, p1, _, _, p4⟩ := e.ee.own j _ hj
  rw [ga] at q1
  rw [gb] at p1
  cases q1; cases p1
  refine ⟨e'.kp a _ (.inr (.inl rfl)) (fun z => q4 (m.dg a z)) ha, e'.kp b _ (.inr (.inr (.inl rfl))) (fun z => p4 (m.dg b z)) hb, fun c o n q => e'.kp c o (.inr (.inr (.inr ⟨(by rw [q]; exact fun z => by cases z), n⟩))) (fun z => n (.inl (e.gd c (m.dg c z)))) q, fun c o n q z => ?_⟩
  rcases z with z | z
  · rcases z with z | z | z
    · exact n (.inl z)
    · exact n (.inr (z ▸ ⟨i, _, hi, ga⟩))
    · exact n (.inr (z ▸ ⟨j, _, hj, gb⟩))
  · exact e'.ow c z (.inr (.inr (.inr ⟨(by rw [q]; exact fun z => by cases z), n⟩)))
theorem kk_held {O : Addr → Prop} (e : KK m F H) (k : KK m (FmH F H O a b) H') : KK m F H' := fun c o h1 h2 h3 => k c o (.inl h1) h2 (e c o h1 h2 h3)
theorem EO0.less0 {O : Addr → Prop} (e : EO0 m F σ H env) (e' : EO0 m (FmH F H O a b) σ' H' env') : EO0 m F σ' H' env' :=
  ⟨e'.ee.less (fun c h => h.elim (fun z => .inl (.inl z)) .inr) (fun c h => .inl (e.gd c h)) (fun k w c h1 h2 => .inr ⟨k, w, h1, h2⟩), e.gd, e.o0, e.kt, kk_held e.kp e'.kp, fun c h z => e'.ow c h (.inl z), e'.un⟩
theorem EO0.give (e : EO0 m F σ H env) (hij : i ≠ j) (hi : env[i]? = some (.own (.lst ds))) (hj : env[j]? = some (.own (.lst es))) (ga : σ[i]? = some (some (.ref a))) (gb : σ[j]? = some (some (.ref b))) (ha : H a = some (.lst xs)) (hb : H b = some (.lst ys)) (rx : Rs (OO F.O env σ) H xs ds) (ry : Rs (OO F.O env σ) H ys es)
    (e' : EO0 m (FmH F H (OO F.O env σ) a b) σ' H' env') (hi' : env'[i]? = some (.val (.ptr a))) (hj' : env'[j]? = some (.val (.ptr b))) : EO0 m F σ' H' (give2 env' i j ds es) := by
  obtain ⟨ka, kb, kx, fr⟩ := e.held hi hj ga gb ha hb e'
  have li : i < env'.length := (List.getElem?_eq_some_iff.mp hi').1
  have lj : j < env'.length := (List.getElem?_eq_some_iff.mp hj').1
  have ga' : σ'[i]? = some (some (.ref a)) := by
    obtain ⟨v, h1, h2⟩ := e'.ee.val i _ hi'
    cases h2
    exact h1
  have gb' : σ'[j]? = some (some (.ref b)) := by
    obtain ⟨v, h1, h2⟩ := e'.ee.val j _ hj'
    cases h2
    exact h1
  have oa : ownA env σ a := ⟨i, _, hi, ga⟩
  have ob : ownA env σ b := ⟨j, _, hj, gb⟩
  have ab : a ≠ b := fun z => hij (e.un i j _ _ a hi hj ga (z ▸ gb))
  have oa2 : ownA (give2 env' i j ds es) σ' a := ⟨i, _, get2_i hij li, ga'⟩
  have ob2 : ownA (give2 env' i j ds es) σ' b := ⟨j, _, get2_j lj, gb'⟩
  have o1 : ∀ {k : Nat} {w : OwnS} {c : Addr}, (give2 env' i j ds es)[k]? = some (.own w) → σ'[k]? = some (some (.ref c)) → (k = j ∧ c = b) ∨ (k = i ∧ c = a) ∨ (env'[k]? = some (.own w) ∧ c ≠ a ∧ c ≠ b) := by
    intro k w c q1 q2
    rcases get2 li lj q1 with ⟨z1, _⟩ | ⟨_, z1, _⟩ | ⟨_, _, z⟩
    · subst z1
      rw [gb'] at q2
      cases q2
      exact .inl ⟨rfl, rfl⟩
    · subst z1
      rw [ga'] at q2
      cases q2
      exact .inr (.inl ⟨rfl, rfl⟩)
    · have oc : ownA env' σ' c := ⟨k, w, z, q2⟩
      exact .inr (.inr ⟨z, fun y => e'.ow c oc (.inr (.inl y)), fun y => e'.ow c oc (.inr (.inr (.inl y)))⟩)
  have oo : ∀ c, OO F.O (give2 env' i j ds es) σ' c → OO (FmH F H (OO F.O env σ) a b).O env' σ' c := by
    rintro c (z | ⟨k, w, h1, h2⟩)
    · exact .inl (.inl z)
    · rcases o1 h1 h2 with ⟨_, y⟩ | ⟨_, y⟩ | ⟨y, _⟩
      · exact .inl (.inr (.inr y))
      · exact .inl (.inr (.inl y))
      · exact .inr ⟨k, w, y, h2⟩
  have kk : ∀ c o, ¬ OO (FmH F H (OO F.O env σ) a b).O env' σ' c → H' c = some o → H' c = some o ∧ ¬ OO F.O (give2 env' i j ds es) σ' c := fun c o n q => ⟨q, fun z => n (oo c z)⟩
  have kz : ∀ c o, ¬ OO F.O env σ c → H c = some o → H' c = some o ∧ ¬ OO F.O (give2 env' i j ds es) σ' c := fun c o n q => ⟨kx c o n q, fun z => fr c o n q (oo c z)⟩
  obtain ⟨a0, q1, _, _, q4⟩ := e.ee.own i _ hi
  obtain ⟨b0, p1, _, _, p4⟩ := e.ee.own j _ hj
  rw [ga] at q1
  rw [gb] at p1
  cases q1; cases p1
  refine ⟨⟨by rw [List.length_set, List.length_set]; exact e'.ee.len, fun c h => .inl (e.gd c h), fun c h => e'.ee.old c (oo c h), fun k d q => ?_, fun k w q => ?_⟩, e.gd, e.o0, e.kt, kk_held e.kp e'.kp, ?_, fun k l w x c h1 h2 h3 h4 => ?_⟩
  · rcases get2 li lj q with ⟨_, z⟩ | ⟨_, _, z⟩ | ⟨_, _, z⟩
    · cases z
    · cases z
    · obtain ⟨v, h1, h2⟩ := e'.ee.val k d z
      exact ⟨v, h1, h2.keep kk⟩
  · rcases get2 li lj q with ⟨z1, z2⟩ | ⟨_, z1, z2⟩ | ⟨_, _, z⟩
    · cases z2; subst z1
      exact ⟨b, gb', ⟨ys, kb, ry.keep kz⟩, .inr ob2, p4⟩
    · cases z2; subst z1
      exact ⟨a, ga', ⟨xs, ka, rx.keep kz⟩, .inr oa2, q4⟩
    · obtain ⟨c, h1, h2, h3, h4⟩ := e'.ee.own k w z
      exact ⟨c, h1, h2.keep kk (fun _ z => z), .inr ⟨k, w, q, h1⟩, h4⟩
  · rintro c ⟨k, w, h1, h2⟩
    rcases o1 h1 h2 with ⟨_, y⟩ | ⟨_, y⟩ | ⟨y, _⟩
    · rw [y]; exact e.ow b ob
    · rw [y]; exact e.ow a oa
    · exact fun z => e'.ow c ⟨k, w, y, h2⟩ (.inl z)
  · rcases o1 h1 h3 with ⟨y1, y2⟩ | ⟨y1, y2⟩ | ⟨y1, y2, y3⟩
    · rcases o1 h2 h4 with ⟨u1, u2⟩ | ⟨u1, u2⟩ | ⟨u1, u2, u3⟩
      · rw [y1, u1]
      · exact absurd (u2.symm.trans y2) ab
      · exact absurd y2 u3
    · rcases o1 h2 h4 with ⟨u1, u2⟩ | ⟨u1, u2⟩ | ⟨u1, u2, u3⟩
      · exact absurd (y2.symm.trans u2) ab
      · rw [y1, u1]
      · exact absurd y2 u2
    · rcases o1 h2 h4 with ⟨u1, u2⟩ | ⟨u1, u2⟩ | ⟨u1, u2, u3⟩
      · exact absurd u2 y3
      · exact absurd u2 y2
      · exact e'.un k l w x c y1 u1 h3 h4
end
def sForZ (i j : Nat) (f : D → List (Nat × D) → Prop) (b : TDS) : TDS := fun Z env n => ∃ ds es, i ≠ j ∧ env[i]? = some (.own (.lst ds)) ∧ env[j]? = some (.own (.lst es)) ∧ ∀ p q : Addr, ∃ I : Nat → Sls → Nat → Prop, I 0 (hold2 env i j p q) n ∧
  (∀ k d env' n', (zipD ds es)[k]? = some d → I k env' n' → ∃ asg, f d asg ∧ b { nx := I (k + 1), ct := I (k + 1), bk := fun _ _ => False, rt := Z.rt } (setsE env' asg) n') ∧
  ∀ env' n', I (zipD ds es).length env' n' → env'[i]? = some (.val (.ptr p)) ∧ env'[j]? = some (.val (.ptr q)) ∧ Z.nx (give2 env' i j ds es) n'
theorem s_forZ {e1 e2 : Expr} {p pos tpos fpos : Pos} {elts : List Expr} {kk : Nat} {body : List Stmt} {i j : Nat} {g : TG} {f : D → List (Nat × D) → Prop} {b : TDS} (hp : PassesOwn (model X.prog X.w) X.A X.env X.xe) (hc : X.calm = true) (p1 : PE X e1 (tVar i)) (p2 : PE X e2 (tVar j)) (hg : Gl X "zip") (hm : X.mg "zip" = none) (ht : TV X (.Tuple elts kk tpos) g f) (hb : SsV X m body b)
    (hs1 : starEach [e1, e2] X.env = (false, eval e1 X.env) :: starEach [e2] X.env := by rfl) (hs2 : starEach [e2] X.env = (false, eval e2 X.env) :: starEach [] X.env := by rfl) (hpl : (backTo pos (starEach [e2] X.env)).any (·.1) = false := by rfl)
    (hs : ∀ x, foldedSetIterable (.Call (.Name "zip" p) [e1, e2] [] pos) X.env x = pure x := by intro _; rfl) : SV X m (.For (.Tuple elts kk tpos) (.Call (.Name "zip" p) [e1, e2] [] pos) body [] fpos) (sForZ i j f b) := by
  obtain ⟨tb, pb, h2⟩ := hb.ex
  refine ⟨_, ps_for hp hc (pi_zip hg hm (pa_cons p1 (pa_cons p2 pa_nil hs2) hs1) hs1 hpl) ht.pg pb hs, fun F σ H env n Z E e s z ⟨ds, es, hij, hi, hj, q⟩ => ?_⟩
  obtain ⟨a, ga, ⟨xs, ha, rx⟩, _, _⟩ := e.o.ee.own i _ hi
  obtain ⟨c, gb, ⟨ys, hb', ry⟩, _, _⟩ := e.o.ee.own j _ hj
  obtain ⟨I, i0, is, ie⟩ := q a c
  refine ⟨.ref a, ga, .ref c, gb, a, c, xs, ys, rfl, .inl (.inl ha), .inl (.inl hb'), ?_⟩
  obtain ⟨G, Y, wk, hG, hY⟩ := it_zipO (K := X.K) (a := a) (b := c) rx ry
  let F' : Fm := FmH F H (OO F.O env σ) a c
  have wx' : WXO m F' := fun σ' H' env' n' C fs d vfs x s' h nd r y => e.wx σ' H' env' n' C fs d vfs (e.o.less0 x) s' h (fun u => nd (u.elim (fun u => .inl (.inl u)) .inr)) (r.keep fun b o n q => ⟨q, fun u => n (u.elim (fun u => .inl (.inl u)) .inr)⟩) y
  have go : EO m F' σ H (hold2 env i j a c) := ⟨e.o.hold hij hi hj ga gb ha hb', wx'⟩
  let P : Nat → L2.St → Hp → Prop := fun k σ' H' => ∃ env' n', EO m F' σ' H' env' ∧ m.St n' H' ∧ I k env' n'
  refine for_it wk P ⟨_, n, go, s, i0⟩ (fun k σ' H' _ ⟨env', n', e', _, _⟩ => ?_) ?_ ?_
  · obtain ⟨k1, k2, _⟩ := e.o.held hi hj ga gb ha hb' e'.o
    exact hG H' k1 k2
  · intro k x σ' H' H'' hk ⟨env', n', e', s', q'⟩ y
    obtain ⟨_, _, kx, fr⟩ := e.o.held hi hj ga gb ha hb' e'.o
    obtain ⟨d, hd, sm, rx⟩ := hY k H' x H'' hk kx y
    have rx' : R (OO F'.O env' σ') H'' x d := rx _ e'.o.ee.old fun a o n q => fr a o n q
    obtain ⟨asg, hf, hz⟩ := is k d env' n' hd q'
    obtain ⟨vas, as, hgo⟩ := ht.run _ H'' x d asg rx' hf
    refine hgo _ _ ?_
    have sj : m.St n' H'' := m.keep n' H' H'' s' fun a o _ q => sm a o q
    have ej := (e'.kx (fun b o _ q => sm b o q) sj).sets (fun a h => h) as
    refine h2 F' _ H'' _ n' { nx := I (k + 1), ct := I (k + 1), bk := fun _ _ => False, rt := Z.rt } _ ej sj ⟨fun σ2 H2 env2 n2 e2 s2 q2 => ⟨env2, n2, e2, s2, q2⟩, fun v H2 d n2 k2 s2 r2 q2 => z.rt v H2 d n2 (kk_held e.kp k2) s2 (r2.keep fun b o n q => ⟨q, fun u => n (.inl u)⟩) q2, fun σ2 H2 env2 n2 e2 s2 q2 => q2.elim, fun σ2 H2 env2 n2 e2 s2 q2 => ⟨env2, n2, e2, s2, q2⟩⟩ hz
  · rintro σ' H' ⟨env', n', e', s', q'⟩
    obtain ⟨hi', hj', q2⟩ := ie env' n' q'
    exact z.nx _ _ _ _ ⟨e.o.give hij hi hj ga gb ha hb' rx ry e'.o hi' hj', e.wx⟩ s' q2
/-- x, y = [..], []: two own lists -/
def sPar2Own (i j : Nat) (Ta Tb : TDs) : TDS := fun Z env n => Ta env n fun ds n1 => Tb env n1 fun es n2 => es = [] ∧ i < env.length ∧ j < env.length ∧ Z.nx (give2 env i j ds []) n2
theorem s_par2Own {st : Stmt} {i j : Nat} {a b : Expr} {Ta Tb : TDs} (ha : FV X m a Ta) (hb : FV X m b Tb) (hx : ∀ {t : TA}, PA X [a, b] t → PS X st (tPar i j t)) (hs : starEach [a, b] X.env = (false, eval a X.env) :: starEach [b] X.env := by rfl) (hs2 : starEach [b] X.env = (false, eval b X.env) :: starEach [] X.env := by rfl) : SV X m st (sPar2Own i j Ta Tb) := by
  obtain ⟨ta, pa, h1⟩ := ha.ex
  obtain ⟨tb, pb, h2⟩ := hb.ex
  refine ⟨_, hx (pa_cons pa (pa_cons pb pa_nil hs2) hs), fun F σ H env n Z E e s z q => ?_⟩
  refine h1 _ σ H env n _ e.ee s (ha.mono _ _ _ _ (fun ds n1 q => ?_) q)
  intro b1 xs H1 k1 s1 nb1 nO1 hb1 rs1
  have e1 := e.kx k1 s1
  refine h2 _ σ H1 env n1 _ e1.ee s1 (hb.mono _ _ _ _ (fun es n2 q => ?_) q)
  intro b2 ys H2 k2 s2 nb2 nO2 hb2 rs2
  obtain ⟨q0, q1, q2, q3⟩ := q
  subst q0
  have f1 := e.take (i := i) (w := .lst ds) s1 k1 q1 nb1 ⟨xs, hb1, rs1⟩
  refine ⟨_, _, rfl, z.nx _ _ _ _ (f1.take (i := j) (w := .lst []) s2 k2 (by rw [List.length_set]; exact q2) nb2 ⟨ys, hb2, ?_⟩) s2 q3⟩
  cases rs2
  exact .nil
end
end DL

set_option Elab.async false
set_option linter.all false
set_option maxRecDepth 100000
set_option maxHeartbeats 1000000
/-! DL47: a lambda without parameters, handed to a def that calls it under try -/
namespace DL
open PySem L2
section
open PySem.Spec PyProof.Rows
variable {X : Cx} {pins : List (Addr × Obj)} {σ : L2.St} {H : Hp} {s : Shared}
abbrev lamQ (X : Cx) : Str := X.env.qual ++ "<lambda>"
abbrev lamO (X : Cx) (params : Arguments) (body : Expr) (scope : Scope) (pm : Value) (c' : Addr) (ctv : Value) : Obj := PySem.W.kla_obj "<lambda>" (lamQ X) params body scope (cloFrom X.env.cells scope.names []) pm c' ctv
/-- the making of a lambda: of what is known, only the table at P is changed -/
theorem lam_own {c P : Addr} {params : Arguments} {body : Expr} {scope : Scope} {pos : Pos} {E Q : Value → Shared → Prop} (I : Inv X pins σ H s) (B : LamX.TabB X.base X.mg c P) (isC : X.env.code = .ref c) (t : LamX.TabS H P (lamQ X)) (nd : defaultsOf params X.env = ([], [])) (cl : ∀ y ∈ scope.names, y.2 = .free → ∃ c, X.env.cells.lookup y.1 = some c)
    (h : ∀ (f c' : Addr) (pm ctv : Value) (G : Hp) (s' : Shared), Inv X pins σ G s' → (∀ b o, b ≠ P → H b = some o → G b = some o) → LamX.TabS G P (lamQ X) → s'.heap.get? f = some (lamO X params body scope pm c' ctv) → G f = none → f ∉ frs X.stack → G c' = some (LamX.CodeO c' (lamQ X)) → Q (.ref f) s') :
    wpAny (model X.prog X.w) X.A (eval (.Lambda params body scope pos) X.env) Q E s := by
  obtain ⟨tab, hP, three, known⟩ := t
  have onP : s.heap.get? P = some { cls := .none, data := .fields tab } := I.hok P _ hP
  have bm := B.bm.keeps I.bk
  have glob := I.mod.glob.keeps I.bk
  have head := B.code.keeps I.bk
  have off : ∀ a, s.heap.objs.size ≤ a → a ∉ frs X.stack := fun a ha z => (List.mem_cons.mp (I.stkSub _ z)).elim (fun e => absurd (show X.env.locals < s.heap.objs.size from I.lt) (by rw [← e]; exact Nat.not_lt.mpr ha)) (I.nofs ha)
  apply PySem.W.kla_eval nd
  match look : codeAmong pos tab.toList with
  | some cv =>
    obtain ⟨c', rfl, known'⟩ := known pos cv look
    exact PySem.W.kla_makeFunctionHit (closure_ok cl) I.ok.glob glob isC head onP three look bm fun ctv g tk up sz =>
      h g.objs.size c' _ ctv H _ (I.kept fun b o e => Heap.get?_push_of_some _ (up b o e)) (fun b o _ e => e) ⟨tab, hP, three, known⟩ (Heap.get?_push_size _ rfl) (I.hok.fresh sz) (off _ sz) known'
  | none =>
    refine PySem.W.kla_makeFunction (closure_ok cl) I.ok.glob glob isC head onP three look B.gP bm fun c' ctv g tk up lo hi rec now => ?_
    obtain ⟨c0, oc, vs, tt, e0, here, isF, named⟩ := rec
    cases e0
    have le : s.heap.objs.size ≤ g.objs.size := Nat.le_of_lt (Nat.lt_of_le_of_lt lo hi)
    have fr : H c' = none := I.hok.fresh lo
    have kept : ∀ b o, b ≠ P → H b = some o → upd (upd H P (.tbl (tab ++ #[rawInt pos.line, rawInt pos.col, .ref c']))) c' (LamX.CodeO c' (lamQ X)) b = some o := fun b o nb e => by
      rw [upd_ne (ne_of_none e fr), upd_ne nb, e]
    have tl : (tab ++ #[rawInt pos.line, rawInt pos.col, .ref c']).toList = tab.toList ++ [rawInt pos.line, rawInt pos.col, .ref c'] := by simp
    have notP : ∀ {b : Addr} {q : Str}, H b = some (LamX.CodeO b q) → b ≠ P := fun e z => by
      rw [z, hP] at e
      exact LamX.codeO_ne tab (Option.some.inj e).symm
    have newer : LamX.TabS (upd (upd H P (.tbl (tab ++ #[rawInt pos.line, rawInt pos.col, .ref c']))) c' (LamX.CodeO c' (lamQ X))) P (lamQ X) := by
      refine ⟨_, (upd_ne (ne_of_none hP fr)).trans upd_same, tl ▸ PySem.TriplesOk_snoc _ _ _ _ three, fun p' cv' at' => ?_⟩
      rw [tl] at at'
      rcases LamX.among_app _ three at' with z | z
      · obtain ⟨c1, e1, e2⟩ := known p' cv' z
        exact ⟨c1, e1, kept _ _ (notP e2) e2⟩
      · exact ⟨c', z, upd_same⟩
    have J := LamX.inv_table (t' := tk) (more := #[rawInt pos.line, rawInt pos.col, .ref c']) (h' := g.push (lamO X params body scope ((X.mg "__name__").getD .none) c' ctv)) I hP (fun b o nb e => Heap.get?_push_of_some _ (up b o nb e)) (Heap.get?_push_of_some _ now) lo ⟨oc, vs, tt, Heap.get?_push_of_some _ here, isF, named⟩
    refine h g.objs.size c' _ ctv _ _ J kept newer (Heap.get?_push_size _ rfl) ?_ (off _ le) upd_same
    rw [upd_ne (Nat.ne_of_gt hi), upd_ne (fun z => absurd (Heap.lt_size onP) (by rw [← z]; exact Nat.not_lt.mpr le))]
    exact I.hok.fresh le
end
/-! ### what is kept beside: the table, too -/
structure HasTab (m : Md) (P : Addr) (q : Str) : Prop where
  d : m.d P
  tab : ∀ n H, m.St n H → LamX.TabS H P q
  put : ∀ n H G, m.St n H → (∀ b o, b ≠ P → H b = some o → G b = some o) → LamX.TabS G P q → m.St n G
/-- m's own objects are no code objects, no tables -/
structure NoTab (m : Md) : Prop where
  d : ∀ n H a, m.St n H → m.d a → (∀ f, H a ≠ some (.ext f)) ∧ ∀ ps, H a ≠ some (.tbl ps)
theorem tab_keep {H G : Hp} {P : Addr} {q : Str} (t : LamX.TabS H P q) (h : ∀ b o, (b = P ∨ Ext o) → H b = some o → G b = some o) : LamX.TabS G P q := by
  obtain ⟨tab, hP, three, known⟩ := t
  refine ⟨tab, h _ _ (.inl rfl) hP, three, fun p cv e => ?_⟩
  obtain ⟨c, e1, e2⟩ := known p cv e
  exact ⟨c, e1, h _ _ (.inr ⟨_, rfl⟩) e2⟩
/-- .. with the table at P beside -/
def Md.tab (m : Md) (P : Addr) (q : Str) : Md where
  d := fun a => m.d a ∨ a = P
  g := fun a => m.g a ∨ a = P
  St := fun n H => m.St n H ∧ LamX.TabS H P q
  W := m.W
  er := m.er
  dg := fun a h => h.imp (m.dg a) id
  old := fun n H a ⟨s, t⟩ h => h.elim (m.old n H a s) fun e => by
    obtain ⟨tab, hP, _⟩ := t
    rw [e, hP]; exact fun z => nomatch z
  keep := fun n H H' ⟨s, t⟩ k => ⟨m.keep n H H' s fun a o h e => k a o (h.imp .inl id) e, tab_keep t fun b o h e => k b o (h.imp .inr id) e⟩
theorem hasTab {m : Md} {P : Addr} {q : Str} (hP : ¬ m.g P) : HasTab (m.tab P q) P q :=
  ⟨.inr rfl, fun n H s => s.2, fun n H G s k t => ⟨m.keep n H G s.1 fun a o h e => k a o (fun z => by
    rcases h with h | ⟨f, h⟩
    · exact hP (z ▸ h)
    · obtain ⟨tab, hP, _⟩ := s.2
      rw [z, hP, h] at e
      cases e) e, t⟩⟩
/-- a promise that knows nothing of the table -/
theorem spM_tab {m : Md} {P : Addr} {q : Str} {T : FT} (hm : FMono T) (nt : NoTab m) (vs : List V) (H : Hp) (Q : VK) (E : XK) : spM (m.tab P q) T vs H Q E → spM m T vs H Q E := fun ⟨ds, O, n, r, gd, old, s, t⟩ => by
  refine ⟨ds, O, n, r, fun a h => gd a (.inl h), old, s.1, hm _ _ _ _ (fun d n' o v H' k s' r' => o v H' (k.mono fun a h => .inl h) ⟨s', tab_keep s.2 fun b u h e => k b u (fun z => ?_) e⟩ r') t⟩
  obtain ⟨h1, h2⟩ := nt.d n H b s.1 z
  rcases h with h | ⟨f, h⟩
  · obtain ⟨tab, hP, _⟩ := s.2
    exact h2 tab (h ▸ hP)
  · exact h1 f (h ▸ e)
section
variable {Pg : Program} {w : World} {K : PySem.W.Frag} {mg : Str → Option Value} {base : Heap}
theorem up_tab {m : Md} {P : Addr} {q : Str} {T : FT} {k : Nat} {f : Addr} {fd : FuncData} {ps : List Str} (hm : FMono T) (nt : NoTab m) (F : FnOk Pg w K mg base CX0 k f fd ps (spM m T)) : FnOk Pg w K mg base CX0 k f fd ps (spM (m.tab P q) T) := F.imp (spM_tab hm nt)
end
/-! ### the def that catches -/
def anyE (N : List Str) : Sls := List.replicate N.length .any
theorem any_get {N : List Str} {i : Nat} {s : Sl} (h : (anyE N)[i]? = some s) : s = .any := by
  unfold anyE at h
  rw [List.getElem?_replicate] at h
  split at h
  · exact (Option.some.inj h).symm
  · cases h
theorem eo_any {m : Md} {O : Addr → Prop} {H H' : Hp} {σ : L2.St} {N : List Str} {n : Nat} (gd : ∀ a, m.g a → O a) (old : ∀ a, O a → H a ≠ none) (k : KX m.d H H') (s : m.St n H') (hl : σ.length = N.length) : EO0 m ⟨H, fun a => H a ≠ none, O⟩ σ H' (anyE N) := by
  have nown : ∀ a, ¬ ownA (anyE N) σ a := fun a ⟨i, w, h1, h2⟩ => by cases any_get h1
  refine ⟨⟨by rw [hl]; unfold anyE; rw [List.length_replicate], fun a h => .inl (gd a h), fun a h => ?_, fun i d q => (by cases any_get q), fun i w q => (by cases any_get q)⟩, gd, fun a h => old a h, fun a h => h, fun b o _ nd h => k b o nd h, fun a h => absurd h (nown a), fun i j w x a h1 h2 => (by cases any_get h1)⟩
  rcases h with h | h
  · by_cases g : m.d a
    · exact m.old n H' a s (m.dg a g)
    · cases q : H a with
      | none => exact absurd q (old a h)
      | some o => rw [k a o g q]; exact fun z => nomatch z
  · exact absurd h (nown a)
theorem cls_reach {K : PySem.W.Frag} {m : Md} {F : Fm} {Z : EndD} {E : Ends} {Wo : WX} (z : Ends' m.nox F Z E) : ∀ (l : List CVT) (σ : L2.St) (H : Hp) (env : Sls) (n : Nat) (C : Addr) (fs : List (Str × D)) (d : Addr) (vfs : List (Str × V)), EO0 m.nox F σ H env → m.St n H → ¬ OO F.O env σ d → H d = some (.xd vfs) → Rf (OO F.O env σ) H vfs fs → eCls K m.nox Z l C fs env n → wCls K Wo E (l.map (ctOf m.nox)) (.ref C) (some d) σ H
  | [], _, _, _, _, _, _, _, _, _, _, _, _, _, hq => hq.elim
  | (c, i, C0, Ts) :: l, σ, H, env, n, C, fs, d, vfs, e, s, nd, hd, rf, ⟨b, h1, yes, no⟩ => by
    refine ⟨b, h1, fun hb a na => ?_, fun hb => cls_reach z l σ H env n C fs d vfs e s nd hd rf (no hb)⟩
    obtain ⟨eC, hT⟩ := yes hb
    subst eC
    have up : ∀ {σ2 : L2.St} {H2 : Hp} {env2 : Sls}, EO m.nox F σ2 H2 env2 → EO m.nox F (σ2.set i none) H2 (env2.set i .any) := fun x => ⟨x.o.unset i, fun _ _ _ _ _ _ _ _ _ _ _ _ _ z => z.elim⟩
    exact ⟨F, env.set i (.val (.exc a d C fs)), n, unZ i Z, d, rfl, rfl, ⟨e.set (.exc nd hd rf), fun _ _ _ _ _ _ _ _ _ _ _ _ _ z => z.elim⟩, s, ⟨fun σ2 H2 env2 n2 e2 s2 q => z.nx _ _ _ _ (up e2) s2 q, z.rt, fun σ2 H2 env2 n2 e2 s2 q => z.bk _ _ _ _ (up e2) s2 q, fun σ2 H2 env2 n2 e2 s2 q => z.ct _ _ _ _ (up e2) s2 q⟩, hT a d⟩
theorem takes_len {X : Cx} {W : WX} (t : Takes X W) : Takes X (fun cls d σ H => σ.length = X.N.length → W cls d σ H) := fun u s' ⟨a, B, sI, pins, σ, H, cls, d, eu, J, nb, up, sky, na, os, ag, w⟩ => t u s' ⟨a, B, sI, pins, σ, H, cls, d, eu, J, nb, up, sky, na, os, ag, w J.len⟩
abbrev HE := Addr → List (Str × D) → DK → Nat → Prop
/-- where the clauses end -/
abbrev Zcat (Tr : TDS) (K : DK) : EndD := { Zdef K with nx := Tr (Zdef K) }
/-- try: a() / clauses / the rest: what it makes of an error, what else -/
structure Cat (X : Cx) (m : Md) (N : List Str) (a : Str) (bg : List Stmt) (HErr : HE) : Prop where
  ex : ∃ (p1 p2 p3 p4 : Pos) (h0 : ExceptHandler) (hds : List ExceptHandler) (rest : List Stmt) (l : List CVT) (Tr : TDS), bg = .Try [.Expr (.Call (.Name a p1) [] [] p2) p3] (h0 :: hds) [] [] p4 :: rest ∧ ClsV X m.nox (h0 :: hds) l ∧ SsV X m.nox rest Tr ∧
    (∀ C fs K n, HErr C fs K n → eCls X.K m.nox (Zcat Tr K) l C fs (anyE N) n) ∧ ∀ (K : DK) n, K .non n → Tr (Zdef K) (anyE N) n
/-- the body of a lambda, run at σ: an error is told by E -/
def tLamR (m : Md) (Tb : Er → TD) : XK → TE := fun E σ H Q => ∃ O env n er, EE (m.x (fun cls d _ H => E cls d H) er) O σ H env ∧ m.St n H ∧ Tb er env n (Out m O H Q)
def tLamD (HErr : HE) (Tb : Er → TD) : TD := fun env n K => ∃ er : Er, Tb er env n (fun _ n' => K .non n') ∧ ∀ C fs e n', er C fs e n' → HErr C fs K n'
theorem lam_intro {HErr : HE} {Tb : Er → TD} {env : Sls} {n : Nat} {K : DK} (h : Tb (fun C fs _ n' => HErr C fs K n') env n fun _ n' => K .non n') : tLamD HErr Tb env n K := ⟨_, h, fun _ _ _ _ z => z⟩
section
open PySem.Spec PyProof.Rows
variable {X : Cx} {m : Md}
/-- x(lambda: body) -/
theorem v_lam {c P : Addr} {x a : Str} {g : Addr} {k : Nat} {pg : Arguments} {bg : List Stmt} {sg : Scope} {dV kV doc pm cdv ct oc : Value} {an od : Option Addr} {osl : Array (Option Value)} {Ng : List Str} {params : Arguments} {body : Expr} {scope : Scope} {p lpos pos : Pos} {HErr : HE} {Tb : Er → TD}
    (hg : Gl X x) (hm : X.mg x = some (.ref g)) (hk : PySem.W.keepIn X.K (.ref g) = true) (lk : X.K.lookup g = some ⟨oc, od, .func (PySem.W.fnOf x x pg bg sg dV kV doc pm an cdv ct), osl⟩) (hcg : PySem.W.codeIn X.K cdv x = true) (hb : L2.Binds X.K (PySem.W.fnOf x x pg bg sg dV kV doc pm an cdv ct) [a] []) (Sg : FnScope Ng [a] sg) (hNg : Ng[0]? = some a) (hva : Vis sg a)
    (hC : ∀ (s : Shared) (H : Hp), Room (k + 1) (X.A.deeper (PyProof.Rows.envOfC x sg s.heap.objs.size g cdv)) → Cat (cxOf CX0 X.prog X.w X.K X.mg X.base Ng x sg g cdv X.A X.stack s H E0).nox m Ng a bg HErr) (hE : ∀ C fs K K' n, (∀ d n, K d n → K' d n) → HErr C fs K n → HErr C fs K' n)
    (TB : LamX.TabB X.base X.mg c P) (hcode : X.env.code = .ref c) (HT : HasTab m P (lamQ X)) (hr : Room (k + 2) X.A) (L : LamX.LamS X.env.scope scope) (hdef : defaultsOf params X.env = ([], []))
    (hbind : ∀ (q : Str) (cl : List (Str × Addr)) (pm cv ctv : Value), bindArgs (PySem.W.kla_fn "<lambda>" q params body scope cl pm cv ctv) ⟨[], []⟩ = pure [])
    (hB : ∀ (A : Around) (outer : List Env) (s : Shared) (H : Hp) (E : XK) (f c' : Addr) (er : Er), Takes (LamX.lamCx X A outer s H E scope f c') (fun cls d _ H => E cls d H) → Room k (A.deeper (LamX.lamEnv X scope s.heap.objs.size f c')) → EV (LamX.lamCx X A outer s H E scope f c') (m.x (fun cls d _ H => E cls d H) er) body (Tb er))
    (hdb : (x == ("__debug__" : Str)) = false := by decide) (hd : (a == ("__debug__" : Str)) = false := by decide) (hcd : (a == ("__classdict__" : Str)) = false := by decide) : EV X m (.Call (.Name x p) [.Lambda params body scope lpos] [] pos) (tLamD HErr Tb) := by
  have rm : ∀ er, EV (LamX.lamCx X X.A [] X.s_0 X.H_0 (fun _ _ _ => False) scope 0 0) (m.x (fun cls d _ H => False) er) body (Tb er) := fun er => hB X.A [] X.s_0 X.H_0 (fun _ _ _ => False) 0 0 er (takes_of rfl rfl rfl rfl) ((hr.deeper _).mono (by omega))
  have mono : ∀ er env n K K', (∀ d n, K d n → K' d n) → Tb er env n K → Tb er env n K' := fun er => (rm er).mono
  refine ⟨fun env n K K' h ⟨er, q, z⟩ => ⟨er, mono _ _ _ _ _ (fun _ n' => h _ n') q, fun C fs e n' y => hE _ _ _ _ _ h (z C fs e n' y)⟩, fun σ H Q => ∃ O env n, EE m O σ H env ∧ m.St n H ∧ tLamD HErr Tb env n (Out m O H Q), ⟨fun pins s σ H Q I ⟨O, env, n, e, st, er, hq, hz⟩ => ?_⟩, fun O σ H env n Q e st q => ⟨O, env, n, e, st, q⟩⟩
  refine wpAny_Call_Name_kw (ld_glob I hg hm ?_ hdb)
  refine PySem.W.callWith_K (h₀ := X.base) I.ok.mod.kin hk ?_ (by rfl) (by rfl)
  show wpAny _ _ (spliced ((false, eval (.Lambda params body scope lpos) X.env) :: backTo pos (starEach [] X.env))) _ _ s
  refine Calls.spliced_cons (lam_own I TB hcode (HT.tab n H st) hdef (L.has I.ok) fun f c' pm' ctv H1 s' I1 kp T1 hf hfn hfr hco => Calls.spliced_nil ⟨I1.kIn, ?_⟩)
  have k1 : KX m.d H H1 := fun b o nb eb => kp b o (fun z => nb (z ▸ HT.d)) eb
  have st1 := HT.put n H H1 st kp T1
  have e1 := e.kx k1 st1
  have rc : codeAny (model X.prog X.w) X.A (.call (.ref g) ⟨[.ref f], []⟩) (CR CX0 X.stack X.prog X.w H1 s' Q E0) s' := by
    refine LamX.run_ofS (N := Ng) (ps := [a]) (us := [.ref f]) (vs := [.ref f]) lk hcg Sg hr I1.env0 (hb s' [.ref f] I1.kIn rfl) (.cons rfl .nil) rfl fun hr' => ?_
    obtain ⟨p1, p2, p3, p4, h0, hds, rest, l, Tr, eb, hcl, hrest, hEr, hEnd⟩ := (hC s' H1 hr').ex
    obtain ⟨tr, ptr, htr⟩ := hrest.ex
    let Z := (cxOf CX0 X.prog X.w X.K X.mg X.base Ng x sg g cdv X.A X.stack s' H1 E0).nox
    let D0 : Ends := { nx := fun _ H' => Q .non H', rt := Q }
    let D1 : Ends := { D0 with nx := tr D0 }
    let F : Fm := ⟨H1, fun b => H1 b ≠ none, O⟩
    let Kd : DK := Out m O H1 Q
    have start_len : (L2.start Ng [V.ref f]).length = Ng.length := by
      have : 0 < Ng.length := (List.getElem?_eq_some_iff.mp hNg).1
      unfold L2.start
      rw [List.length_append, List.length_map, List.length_replicate, List.length_singleton]
      omega
    have nn : ∀ {b : Addr} {o : HO}, H1 b = some o → H1 b ≠ none := fun h => by rw [h]; exact fun z => by cases z
    have z0 : Ends' m.nox F (Zdef Kd) D0 := ⟨fun σ' H' env' n' e' s' q => q .non H' (fun b o nd h => e'.kp b o (nn h) nd h) s' .non, fun v H' d n' k' s' r' q => q v H' (fun b o nd h => k' b o (nn h) nd h) s' r', fun σ' H' env' n' _ _ q => q.elim, fun σ' H' env' n' _ _ q => q.elim⟩
    have z1 : Ends' m.nox F (Zcat Tr Kd) D1 := ⟨fun σ' H' env' n' e' s' q => htr F σ' H' env' n' (Zdef Kd) D0 e' s' z0 q, z0.rt, z0.bk, z0.ct⟩
    have here : ∀ {σ' : L2.St} {H' : Hp} {n' : Nat}, KX m.d H1 H' → m.St n' H' → σ'.length = Ng.length → EO0 m.nox F σ' H' (anyE Ng) := fun k' s' hl => eo_any (m := m.nox) e1.gd e1.old k' s' hl
    have noOwn : ∀ {σ' : L2.St} {b : Addr}, OO F.O (anyE Ng) σ' b → O b := fun z => z.elim id fun ⟨i, w, h1, h2⟩ => by cases any_get h1
    let Ech : XK := fun cls d H' => ∃ C dd fs vfs n', cls = .ref C ∧ d = some dd ∧ m.St n' H' ∧ KX m.d H1 H' ∧ H' dd = some (.xd vfs) ∧ ¬ O dd ∧ Rf O H' vfs fs ∧ HErr C fs Kd n'
    let tb : WX → L2.TS := fun W D σ2 H2 => ∃ Ec : XK, (∀ cls d (σ' : L2.St) H', σ'.length = Ng.length → Ec cls d H' → W cls d σ' H') ∧ σ2[0]? = some (some (.ref f)) ∧ H2 c' = some (LamX.CodeO c' (lamQ X)) ∧ tLamR m Tb Ec σ H2 (fun _ H' => D.nx σ2 H')
    have ptry : PS Z (.Try [.Expr (.Call (.Name a p1) [] [] p2) p3] (h0 :: hds) [] [] p4) (fun D σ2 H2 => tb (wCls Z.K (fun _ _ _ _ => False) D (l.map (ctOf m.nox))) D σ2 H2) := by
      refine ps_tryN (tb := tb) rfl rfl Sg.nd LamX.takes0 (fun W pn xe tk2 hp => ⟨fun pins2 s2 σ2 H2 D I2 ⟨Ec, hW, g1, g2, g3⟩ => ?_⟩) hcl.to
      have act := LamX.pe_act (W := fun cls d σ' H' => σ'.length = Ng.length → W cls d σ' H') (E := Ec) (pn := pn) (xe := xe) (CXg := CX0) (Eg := E0) (sg := sg) (cdg := cdv) (g := g) (qg := x) (i := 0) (p1 := p1) (p2 := p2) (tb := tLamR m Tb Ec) I1 L hf hfn hfr (hbind _ _ _ _ _) (takes_len tk2) (fun cls d σ' H' y hl => hW cls d σ' H' hl y) hr' (fun A outer s H hr2 => ⟨fun pins3 s3 σ3 H3 Q3 I3 ⟨O3, env3, n3, er3, e3, st3, q3⟩ => by
        obtain ⟨t3, p3, hz3⟩ := (hB A outer s H Ec f c' er3 (takes_of rfl rfl rfl rfl) hr2).ex
        exact p3.run pins3 s3 σ3 H3 Q3 I3 (hz3 O3 σ3 H3 env3 n3 Q3 e3 st3 q3)⟩) hNg hva hd hcd
      exact (pss_one (ps_expr (pos := p3) act)).run pins2 s2 σ2 H2 D I2 ⟨g1, g2, g3⟩
    subst eb
    refine ⟨_, (pss_cons ptry ptr).nox, ?_⟩
    refine ⟨Ech, fun cls d σ' H' hl ⟨C, dd, fs, vfs, n', e1', e2', s', k', hd', nd', rf', he⟩ => ?_, rfl, hco, O, env, n, er, ?_, st1, mono _ _ _ _ _ (fun d n' q v H' k' s' r' => ?_) hq⟩
    · subst e1'; subst e2'
      exact cls_reach z1 l σ' H' (anyE Ng) n' C fs dd vfs (here k' s' hl) s' (fun z => nd' (noOwn z)) hd' (rf'.keep fun b o n q => ⟨q, fun z => n (noOwn z)⟩) (hEr C fs Kd n' he)
    · exact ⟨⟨e1.len, e1.gd, e1.old, e1.val, e1.own⟩, fun C fs n' d H' vfs k' s' hd' nd' rf' y => ⟨C, d, fs, vfs, n', rfl, rfl, s', k', hd', nd', rf', hE _ _ _ _ _ (fun d n o => out_trans k1 o) (hz C fs env n' y)⟩⟩
    · exact htr F _ H' (anyE Ng) n' (Zdef Kd) D0 ⟨here k' s' start_len, fun _ _ _ _ _ _ _ _ _ _ _ _ _ z => z.elim⟩ s' z0 (hEnd Kd n' (out_trans k1 q))
  refine wpAny_call (codeAny_mono rc fun r s2 hq => ?_)
  cases r with
  | error e => exact (show False from hq).elim
  | ok fl => cases fl with
    | ret u => exact I1.after hq
    | _ => exact hq.elim
end
end DL

set_option Elab.async false
set_option linter.all false
set_option maxRecDepth 100000
set_option maxHeartbeats 1000000
/-! DL48: the end of a law whose own def makes lambdas -/
namespace DL
open PySem L2
open PySem.Spec PyProof.Rows
section
variable {P : Program} {w : World} {K : PySem.W.Frag} {mg : Str → Option Value} {base : Heap} {CX : CXT}
/-- a def by its body, its code object known -/
theorem okGc {x qual : Str} {st : Stmt} {f c : Addr} {N ps : List Str} {k : Nat} {sp : Sp} {kV doc pm ct oc : Value} {an od : Option Addr} {osl : Array (Option Value)} (lk : K.lookup f = some ⟨oc, od, .func (PySem.W.fnOf x qual (defArgs st) (defBody st) (defScope st) .none kV doc pm an (.ref c) ct), osl⟩) (hcd : PySem.W.codeIn K (.ref c) qual = true) (S : FnScope N ps (defScope st)) (len : ∀ vs H Q E, sp vs H Q E → vs.length = ps.length)
    (hbody : ∀ (A : Around) (outer : List Env) (s : Shared) (H : Hp) (vs : List V) (Q : VK) (E : XK), A.guards = some [] → Room k (A.deeper (PyProof.Rows.envOfC qual (defScope st) s.heap.objs.size f (.ref c))) → sp vs H Q E →
      ∃ t, PSs (cxOf CX0 P w K mg base N qual (defScope st) f (.ref c) A outer s H E).nox (defBody st) t ∧ t { nx := fun _ H' => Q .non H', rt := Q } (start N vs) H) : FnG P w K mg base CX0 (k + 1) f (PySem.W.fnOf x qual (defArgs st) (defBody st) (defScope st) .none kV doc pm an (.ref c) ct) ps sp := by
  refine ⟨len, fun A outer s H args us vs Q E hg hr e0 hb r hsp => ?_⟩
  have inK : K.In s.heap := e0.mod.kin.keeps fun b o e => (e0.bs b o e).1
  have noLim : s.heap.NoLimit := e0.mod.nolimit.keeps fun b o e => (e0.bs b o e).1
  have kinds : ∀ y ∈ ps.zip us, (defScope st).names.lookup y.1 = some .local ∨ ((defScope st).names.lookup y.1 = some .cell ∧ ((PySem.cellsFrom (s.heap.objs.size + 1) (defScope st).names []).lookup y.1).isSome = true) := by
    rintro ⟨n, v⟩ hy
    have hn := (List.of_mem_zip hy).1
    rcases S.par n hn with z | z
    · exact Or.inl z
    · exact Or.inr ⟨z, PySem.W.cellsFrom_some _ _ _ (Or.inl z)⟩
  refine codeAny_call_function hr.depth (inK _ _ lk) rfl S.co S.gen rfl
    (PySem.W.codeRec_of inK hcd) (hb _ _ _ _ (wpAny_newFunctionEnv_cells S.kind kinds fun env he s1 y => ?_))
  subst he
  obtain ⟨t, ht, hq⟩ := hbody A outer s H vs Q E hg (hr.deeper _) hsp
  have I0 := inv_start (CX := CX0) (E := E) (cd := .ref c) S hr.hd e0 (len _ _ _ _ hsp) r y
  refine ⟨noLim.keeps y.toInCall.keep, codeAny_func (wpAny_mono (ht.nox.run [] s1 _ H _ I0 hq) (fun fl s' z => ?_) fun _ _ z => z)⟩
  cases fl with
  | ret u =>
    obtain ⟨v, σ', H', J, rv, q⟩ := z
    exact ⟨v, H', J.os, J.bare, J.base, J.hok, rv, q⟩
  | next =>
    obtain ⟨σ', H', J, q⟩ := z
    exact ⟨V.non, H', J.os, J.bare, J.base, J.hok, rfl, q⟩
  | brk => exact z.elim fun _ z => z.elim fun _ z => z.2.elim
  | cont => exact z.elim fun _ z => z.elim fun _ z => z.2.elim
end
section
variable {P : Program} {w : World} {K : PySem.W.Frag} {mg mb : Str → Option Value} {CX : CXT} {k : Nat} {fa a c T : Addr} {fd : FuncData} {x : Str} {sp : Sp} {t : Shared} {vs : List Value} {ns : List Int}
/-- what is tracked at the start: the script, the table at T -/
def scrT (K : PySem.W.Frag) (a T : Addr) (vs : List Value) (ns : List Int) : Hp := fun b => if b = T then some (.tbl #[]) else scr K a vs ns b
theorem scrT_at {b : Addr} {o : HO} (h : scrT K a T vs ns b = some o) : (b = T ∧ o = .tbl #[]) ∨ (b ≠ T ∧ scr K a vs ns b = some o) := by
  unfold scrT at h
  split at h
  · rename_i e
    exact .inl ⟨e, (Option.some.inj h).symm⟩
  · rename_i e
    exact .inr ⟨e, h⟩
theorem end_callGT (kin : K.In t.heap) (gl : t.heap.Ns mainGlobals mg) (bl : t.heap.Ns builtinsNs mb) (bb : ∀ x : Str, x ≠ "__name__" → mb x = bootBuiltins x) (lim : t.heap.NoLimit) (sy : ∃ mm, t.heap.Ns sysModules mm) (gn : t.gens = #[])
    (hT : t.heap.get? T = some (PySem.W.tabObj #[])) (nT : K.lookup T = none) (cT : PySem.W.codeHdIn K c T = true)
    (bm : ∃ (bm : Addr) (ob : Obj), mg "__builtins__" = some (.ref bm) ∧ bm ≠ builtinsNs ∧ t.heap.get? bm = some ob ∧ ob.cls = .type "module" ∧ ob.dict = some builtinsNs ∧ ob.data = .plain)
    (ha : t.heap.get? a = some { cls := .type "list", data := .seq vs.toArray }) (hi : IntsAre vs ns) (hl : ns.length ≤ sizeLine) (hr : Room k callerA)
    (F : ∀ base : Heap, K.In base → base.Ns mainGlobals mg → (∃ o, base.get? sysModules = some o) → LamX.TabB base mg c T → FnG P w K mg base CX k fa fd [x] sp) (hb : ∀ (s : Shared) (u : Value), BindsTo s fd ⟨[u], []⟩ [(x, u)])
    (hsp : ∀ H : Hp, H T = some (.tbl #[]) → SqL K H a (ns.map V.int) → sp [.ref a] H (fun v _ => v = .bl true) fun _ _ _ => False) (hx : ∀ H e s', CX [] H t (fun _ _ _ => False) e s' → False) :
    codeAny (model P w) callerA (.call (.ref fa) ⟨[.ref a], []⟩) (fun r s' => r = .ok (.ret (.bool true)) ∧ OldK t.heap s'.heap ∧ s'.os = t.os ∧ AllBare s'.gens) t := by
  have rv := vals_ints hi
  have nl := hi.length
  let H := scrT K a T vs ns
  have atT : H T = some (.tbl #[]) := if_pos rfl
  have aT : a ≠ T := fun z => by
    rw [z, hT] at ha
    have := congrArg Obj.data (Option.some.inj ha)
    cases this
  have sq : SqL K H a (ns.map V.int) := by
    cases q : K.lookup a with
    | none => exact .inl (.inr ⟨_, (if_neg aT).trans (if_pos ⟨rfl, q⟩)⟩)
    | some o =>
      have e := kin a o q
      rw [ha] at e
      cases e
      exact .inr ⟨_, vs.toArray, _, q, rfl, rfl, rfl, by rw [List.size_toArray, nl]; exact hl, by simpa using rv⟩
  have hok : HOk P w H t.heap := fun b u q => by
    rcases scrT_at q with ⟨e1, e2⟩ | ⟨_, q⟩
    · rw [e1, e2]; exact hT
    · obtain ⟨e1, _, e2⟩ := scr_at q
      rw [e1, e2]
      exact ⟨ha, by rw [List.length_map]; exact hl, vs, _, rv, ha⟩
  have off : ∀ {b : Addr} {o : Obj}, t.heap.get? b = some o → (∀ l n, o.data ≠ .seq l n) → o.data ≠ .fields #[] → H b = none := fun {b o} e h1 h2 =>
    (if_neg (fun z => by rw [z, hT] at e; cases e; exact h2 rfl)).trans (scr_off ha e h1)
  have inB : ∀ {b : Addr} {o : Obj}, t.heap.get? b = some o → (∀ l n, o.data ≠ .seq l n) → o.data ≠ .fields #[] → (hidT t.heap H).get? b = some o := fun e h1 h2 => hidT_get e (off e h1 h2)
  have nsB : ∀ {b : Addr} {m : Str → Option Value}, t.heap.Ns b m → (hidT t.heap H).Ns b m := fun ⟨o, es, ep, e, d, r⟩ => ⟨o, es, ep, inB e (fun l n z => by rw [d] at z; cases z) (fun z => by rw [d] at z; cases z), d, r⟩
  have kinB : K.In (hidT t.heap H) := fun b o e => hidT_get (kin b o e) (by
    cases q : H b with
    | none => rfl
    | some u =>
      rcases scrT_at q with ⟨e1, _⟩ | ⟨_, q⟩
      · rw [e1, nT] at e
        cases e
      · obtain ⟨e1, e2, _⟩ := scr_at q
        rw [e1, e2] at e
        cases e)
  obtain ⟨mc, l1, l2⟩ := lim
  obtain ⟨mm, o, es, ep, y1, y2, y3⟩ := sy
  have tb : LamX.TabB (hidT t.heap H) mg c T := by
    obtain ⟨b1, ob, g1, g2, g3, g4, g5, g6⟩ := bm
    obtain ⟨og, eg, pg, m1, m2, _⟩ := gl
    refine ⟨PySem.W.codeHd_of_K kinB cT, ⟨b1, ob, g1, g2, fun z => ?_, fun z => ?_, inB g3 (fun l n z => by rw [g6] at z; cases z) (fun z => by rw [g6] at z; cases z), g4, g5, g6⟩, fun z => ?_⟩
    · rw [z, m1] at g3
      cases g3
      rw [m2] at g6
      cases g6
    · rw [z, hT] at g3
      cases g3
      cases g6
    · rw [z, hT] at m1
      cases m1
      cases m2
  have e0 : Env0 P w K mg (hidT t.heap H) callerA [] t H := ⟨rfl, ⟨kinB, nsB gl, ⟨mb, nsB bl, bb⟩, ⟨mc, nsB l1, l2⟩⟩, fun b o e => of_hidT e, Nat.le_of_eq (hidT_size _ _), trivial, (fun b hb => by cases hb), hok, .of_eq gn⟩
  refine codeAny_mono ((F _ kinB (nsB gl) ⟨o, inB y1 (fun l n z => by rw [y2] at z; cases z) (fun z => by rw [y2] at z; cases z)⟩ tb).run callerA [] t H ⟨[.ref a], []⟩ [.ref a] [.ref a] _ _ rfl hr e0 (hb t (.ref a)) (.cons rfl .nil) (hsp H atT sq)) fun r s' h => ?_
  match r, h with
  | .error e, h => exact (hx H e s' h).elim
  | .ok (.ret u), ⟨v, H', os, bare, un, hok', r', q⟩ =>
    have q' : v = .bl true := q
    subst q'
    obtain rfl : u = Value.bool true := r'
    obtain ⟨more, grew⟩ := un.tbls T #[] atT
    have atT' := hok' T _ grew
    have rest : ∀ b o, b ≠ T → t.heap.get? b = some o → s'.heap.get? b = some o := fun b o nb e => by
      cases q : H b with
      | none => exact un.keep b o e q (fun z => nomatch z) (fun z => nomatch z)
      | some u =>
        rcases scrT_at q with ⟨z, _⟩ | ⟨_, q2⟩
        · exact absurd z nb
        · obtain ⟨e1, _, e2⟩ := scr_at q2
          subst e2
          obtain ⟨g1, _⟩ := hok' b _ (un.frzs b _ _ q)
          rw [e1] at e ⊢
          rw [ha] at e
          cases e
          rw [e1] at g1
          exact g1
    refine ⟨rfl, ⟨fun b o e => ?_, fun b o e => ?_⟩, os, bare⟩
    · by_cases z : b = T
      · rw [z] at e ⊢
        rw [hT] at e
        cases e
        exact .inr (.inl ⟨((PySem.W.codeHd_of_K kin cT).tab hT).isCodeTable, rfl, #[], more, rfl, by rw [Array.empty_append]; exact (by rw [Array.empty_append] at atT'; exact atT')⟩)
      · exact .inl (rest b o z e)
    · by_cases z : b = T
      · rw [z]; exact ⟨_, atT'⟩
      · exact ⟨o, rest b o z e⟩
end
theorem walk_ofGT {l : PySem.W.OpenLaw} {n k : Nat} {q : Program} {loose : List Str} {XP : (Str → Option Value) → Heap → Prop} {YP : World → Heap → Prop} {d : DefRec} {K : Params → PySem.W.Frag} {CX : World → CXT} {x : Str}
    (hn : l.most = some n) (hn2 : n ≤ sizeLine) (hdf : d.params.defaults = []) (hr : Room k callerA) (hi : importsNone q = true) (hrec : ((recsOf q).any fun e => e.name == d.name) = true)
    (hY : ∀ (w : World) (h : Heap), YP w h → (K w.params).In h)
    (F : ∀ (w : World) (mg : Str → Option Value) (fa : Addr) (h : Heap), (K w.params).In h → h.Ns mainGlobals mg → mg d.name = some (.ref fa) →
      ∃ (fd : FuncData) (c T : Addr) (sp : Sp), (∀ (s : Shared) (u : Value), BindsTo s fd ⟨[u], []⟩ [(x, u)]) ∧ PySem.W.tabIn (K w.params) d.name = some (c, T) ∧ (K w.params).lookup T = none ∧ PySem.W.codeHdIn (K w.params) c T = true ∧
        (∀ (H : Hp) (a : Addr) (ns : List Int), ns.length ≤ n → H T = some (.tbl #[]) → SqL (K w.params) H a (ns.map V.int) → sp [.ref a] H (fun v _ => v = .bl true) fun _ _ _ => False) ∧
        ∀ base : Heap, (K w.params).In base → base.Ns mainGlobals mg → (∃ o, base.get? sysModules = some o) → LamX.TabB base mg c T → FnG l.prog w (K w.params) mg base (CX w) k fa fd [x] sp)
    (hCX : ∀ (w : World) (H : Hp) (s : Shared) (e : Value) (s' : Shared), CX w [] H s (fun _ _ _ => False) e s' → False) :
    PySem.W.WalkO q loose XP YP l.row.toRowW d [] (fun f vs => PySem.call f vs) := by
  refine Att.attach_call hn hdf fun w s₀ t mg mb fa o pm cd doc a vs ns G Y ho hd hcd hmg hobj hints hlen hg => ?_
  obtain ⟨fd, c, T, sp, hb, h1, h2, h3, hsp, hF⟩ := F w mg fa _ (hY w _ Y) G.T.g hmg
  obtain ⟨mm, hm, _⟩ := (PyProof.Rows.Top.seer G.T hi).mods
  obtain ⟨d', hd'⟩ := Option.isSome_iff_exists.mp (List.find?_isSome.mpr (List.any_eq_true.mp hrec))
  obtain ⟨_, hT⟩ := PySem.W.tab_of G.T (hY w _ Y) hd' h1
  exact end_callGT (hY w _ Y) G.T.g G.T.b G.T.builtins G.T.nolimit ⟨mm, hm⟩ hg hT h2 h3 G.T.bmain hobj hints (Nat.le_trans hlen hn2) hr hF hb (fun H hO hS => hsp H a ns hlen hO hS) fun H e s' => hCX w H t e s'
/-! ### the rest of a law's def, behind its feed -/
theorem pss_any {ι : Type} {X : Cx} {s : List Stmt} {t : ι → TS} (h : ∀ i, PSs X s (t i)) : PSs X s (fun D σ H => ∃ i, t i D σ H) := ⟨fun pins s σ H D I ⟨i, q⟩ => (h i).run pins s σ H D I q⟩
theorem rest_any {ι : Type} {X : Cx} {rest : List Stmt} {m : ι → Md} {TS : ι → TDS} (h : ∀ z, SsV X (m z).nox rest (TS z)) :
    ∃ t : L2.TS, PSs X rest t ∧ ∀ (z : ι) (N : List Str) (s d : Addr) (H1 : Hp) (Q : VK) (E : Ends), (m z).St 0 H1 → (∀ H', Q (.bl true) H') → E.rt = Q → TS z (Zdef fun x _ => x = .bl true) ((startE N [.ptr s]).set 1 (.val (.ptr d))) 0 → t E ((L2.start N [.ref s]).set 1 (some (.ref d))) H1 := by
  refine ⟨_, pss_any fun z => (Classical.choose_spec (h z).ex).1, fun z N s d H1 Q E st hq he ht => ⟨z, ?_⟩⟩
  have o := start_ok (m := (m z).nox) (O := (m z).g) (H := H1) (N := N) (vs := [.ref s]) (ds := [.ptr s]) (.cons (.ptr _) .nil) (fun a h => h) (fun a h => (m z).old 0 H1 a st h)
  have eo : EO (m z).nox ⟨H1, fun a => H1 a ≠ none, (m z).g⟩ (L2.start N [.ref s]) H1 (startE N [.ptr s]) := ⟨o, fun _ _ _ _ _ _ _ _ _ _ _ _ _ z => z.elim⟩
  refine (Classical.choose_spec (h z).ex).2 _ _ H1 _ 0 (Zdef fun x _ => x = .bl true) E (eo.set (i := 1) (v := .ref d) (d := .ptr d) (.ptr _)) st ⟨fun σ H' env n _ _ q => (by cases q), fun v H' d n _ _ r q => ?_, fun σ H' env n _ _ q => q.elim, fun σ H' env n _ _ q => q.elim⟩ ht
  rw [he]
  have q' : d = .bl true := q
  subst q'
  cases r
  exact hq H'
end DL

set_option Elab.async false
set_option linter.all false
set_option maxRecDepth 100000
set_option maxHeartbeats 1000000
/-! DL49: list(range(a, b)) -/
namespace DL
open PySem L2
theorem rs_range {O : Addr → Prop} {H : Hp} {lo : Int} : ∀ l : List Nat, Rs O H (l.map fun i => V.int (lo + (i : Nat))) (l.map fun i => D.int (lo + (i : Nat)))
  | [] => .nil
  | _ :: r => .cons (.int _) (rs_range r)
section
variable {X : Cx} {m : Md}
def tLRg2 (Ta Tb : TD) : TD := fun env n K => Ta env n fun x n1 => Tb env n1 fun y n2 => ∃ i j, x = .int i ∧ y = .int j ∧ RgOk i j ∧ K (.lst (rangeD i (j - i).toNat)) n2
theorem v_listRg2 {a b : Expr} {Ta Tb : TD} {p p2 pos pos2 : Pos} (hc : X.calm = true) (hg : Gl X "list") (hm : X.mg "list" = none) (hg2 : Gl X "range") (hm2 : X.mg "range" = none) (ha : EV X m a Ta) (hb : EV X m b Tb)
    (na : starEach [a, b] X.env = (false, eval a X.env) :: starEach [b] X.env := by rfl) (nb : starEach [b] X.env = (false, eval b X.env) :: starEach [] X.env := by rfl) (hp : (backTo pos2 (starEach [b] X.env)).any (·.1) = false := by rfl)
    (nl : starEach [Expr.Call (.Name "range" p2) [a, b] [] pos2] X.env = (false, eval (.Call (.Name "range" p2) [a, b] [] pos2) X.env) :: starEach [] X.env := by rfl) : EV X m (.Call (.Name "list" p) [.Call (.Name "range" p2) [a, b] [] pos2] [] pos) (tLRg2 Ta Tb) := by
  obtain ⟨ta, tb, pa, pb, hz⟩ := two ha hb
  refine ⟨fun env n K K' hk q => ha.mono _ _ _ _ (fun x n1 q => hb.mono _ _ _ _ (fun y n2 ⟨i, j, e1, e2, ok, q⟩ => ⟨i, j, e1, e2, ok, hk _ _ q⟩) q) q, _, pe_listRg hc hg hm (prg_2 hg2 hm2 pa pb na nb hp) nl, fun O σ H env n Q e s q => ?_⟩
  refine hz O σ H env n _ _ e s q fun v w x y H2 n2 k2 e2 s2 r1 r2 ⟨i, j, ex, ey, ok, q⟩ => ?_
  subst ex; subst ey
  cases r1
  cases r2
  refine ⟨i, j, rfl, rfl, ok, fun z hn => q _ _ (k2.trans (KX.new hn)) (st_new s2 hn) (.lst (e2.new hn) upd_same ?_)⟩
  unfold rgV rangeD
  exact rs_range _
end
end DL

set_option Elab.async false
set_option linter.all false
set_option maxRecDepth 100000
set_option maxHeartbeats 1000000
/-! DL50: C(..), C's __init__ stores what it is given, or raises -/
namespace DL
open PySem L2
def spJX (C : Addr) (T : TIX) : Sp := fun vs H Q E => ∃ (x dx : Addr) (ws : List V) (ds : List D) (O : Addr → Prop), vs = .ref x :: ws ∧ H x = some (.ins C dx []) ∧ H dx = some (.own x) ∧ ¬ O x ∧ ¬ O dx ∧ (∀ a, O a → H a ≠ none) ∧ Rs (fun a => O a ∨ a = x) H ws ds ∧
  T ds (fun fs => ∀ H' vfs, (∀ b o, b ≠ x → H b = some o → H' b = some o) → H' x = some (.ins C dx vfs) → Rf (fun a => O a ∨ a = x) H' vfs fs → Q .non H') (fun C' fs => ∀ d vfs H', (∀ b o, b ≠ x → H b = some o → H' b = some o) → H' d = some (.xd vfs) → ¬ O d → Rf O H' vfs fs → E (.ref C') (some d) H')
section
variable {Pg : Program} {w : World} {K : PySem.W.Frag} {mg : Str → Option Value} {base : Heap}
/-- by a promise for what is stored, and one for what is raised -/
theorem jx_or {C : Addr} {k j l : Nat} {f : Addr} {fd : FuncData} {ps : List Str} {TG : TI} {TB : FX} {T : TIX} (G : FnOk Pg w K mg base CX0 k f fd ps (spJ C TG)) (B : FnOk Pg w K mg base (L2.CX Pg w) j f fd ps (spX noMd TB)) (h1 : k ≤ l) (h2 : j ≤ l) (hm : ∀ ds n K K' E E', (∀ d n, K d n → K' d n) → (∀ C fs n, E C fs n → E' C fs n) → TB ds n K E → TB ds n K' E')
    (hg : ∀ ds K E, T ds K E → TG ds K ∨ ∀ x, TB (.ptr x :: ds) 0 (fun _ _ => False) (fun C fs _ => E C fs)) (hgm : ∀ ds K K', (∀ fs, K fs → K' fs) → TG ds K → TG ds K') : FnOk Pg w K mg base (L2.CX Pg w) l f fd ps (spJX C T) := by
  refine (DL.FnOk.or (DL.FnOk.more (DL.FnOk.upX G fun vs H Q E E' h => h) h1) (DL.FnOk.more B h2)).imp fun vs H Q E ⟨x, dx, ws, ds, O, ev, hx, hd, nx, nd, old, rs, t⟩ => ?_
  rcases hg _ _ _ t with t | t
  · exact .inl ⟨x, dx, ws, ds, O, ev, hx, hd, nx, nd, old, rs, t⟩
  · subst ev
    refine .inr ⟨.ptr x :: ds, fun a => O a ∨ a = x, 0, .cons (.ptr x) rs, (fun a z => z.elim), (fun a z => z.elim (old a) fun e => by rw [e, hx]; exact fun z => nomatch z), trivial, hm _ _ _ _ _ _ (fun _ _ z => z.elim) (fun C' fs n z d vfs H' k s hd' nd' rf => ?_) (t x)⟩
    exact z d vfs H' (fun b o _ e => k b o (fun z => z) e) hd' (fun z => nd' (.inl z)) (rf.keep fun b o n e => ⟨e, fun z => n (.inl z)⟩)
end
section
variable {X : Cx} {m : Md}
theorem v_makeJX {er : Er} {C : Addr} {k : Nat} {f : Addr} {fd : FuncData} {ps : List Str} {T : TIX} {ds : List Value} {dvs : List V} {dd : List D} {x : Str} {p pos : Pos} {e : Expr} {es : List Expr} {Ts : TDs} (tk : Takes X m.W) (M : Mk X.K C f) (F : FnOk X.prog X.w X.K X.mg X.base (L2.CX X.prog X.w) k f fd ps (spJX C T)) (hm : IXMono T) (hr : Room (k + 1) X.A) (hg : Gl X x) (hmg : X.mg x = some (.ref C)) (hb : Binds X.K fd ps ds) (hd : Vals dvs ds) (rd : ∀ O H, Rs O H dvs dd) (a : AV X m (e :: es) Ts)
    (hdb : (x == ("__debug__" : Str)) = false := by decide) (he : starEach (e :: es) X.env = (false, eval e X.env) :: starEach es X.env := by rfl) (hpl : (backTo pos (starEach es X.env)).any (·.1) = false := by rfl) (her : m.er = er := by rfl) : EV X m (.Call (.Name x p) (e :: es) [] pos) (tMakeXD er C T dd Ts) := by
  subst her
  obtain ⟨t, pa, h⟩ := a.ex
  refine ⟨fun env n K K' hk q => a.mono _ _ _ _ (fun xs n1 q => hm _ _ _ _ _ (fun fs z => hk _ _ z) (fun _ _ z => z) q) q, _, pe_mkS (E := WE m.W) M F hr hg hmg hb hd (fun σ => passAt tk σ) pa hdb he hpl, fun O σ H env n Q e s q => ?_⟩
  refine h O σ H env n _ e s (a.mono _ _ _ _ (fun xs n1 q => ?_) q)
  intro vs H1 k1 s1 r1
  have e1 := e.kx k1 s1
  intro x dx nx ndx ne
  have sm : ∀ b o, H1 b = some o → (upd (upd H1 dx (.own x)) x (.ins C dx [])) b = some o := fun b o h => by rw [upd_ne (ne_of_none h nx), upd_ne (ne_of_none h ndx)]; exact h
  have nO := e1.new nx
  refine ⟨x, dx, vs ++ dvs, xs ++ dd, O, rfl, upd_same, by rw [upd_ne ne, upd_same], nO, e1.new ndx, fun a ha => ?_, (r1.append (rd O H1)).keep fun b o n h => ⟨sm b o h, fun z => z.elim n (ne_of_none h nx)⟩, hm _ _ _ _ _ (fun fs o => ?_) (fun C' fs z => ?_) q⟩
  · cases z : H1 a with
    | none => exact absurd z (e1.old a ha)
    | some o => rw [sm a o z]; exact fun z => nomatch z
  · intro H' vfs kk hx rf
    have k2 : ∀ b o, H1 b = some o → H' b = some o := fun b o h => kk b o (ne_of_none h nx) (sm b o h)
    exact ⟨rfl, o _ H' (k1.trans fun b u _ h => k2 b u h) (m.keep n1 H1 H' s1 fun a u _ h => k2 a u h) (.obj nO hx (rf.keep fun b u n h => ⟨h, fun z => n (.inl z)⟩))⟩
  · intro d vfs H' kk hd' nd rf
    have k2 : ∀ b o, H1 b = some o → H' b = some o := fun b o h => kk b o (ne_of_none h nx) (sm b o h)
    exact e1.wx C' fs n1 d H' vfs (fun b u _ h => k2 b u h) (m.keep n1 H1 H' s1 fun a u _ h => k2 a u h) hd' nd rf z
end
end DL

set_option Elab.async false
set_option linter.all false
set_option maxRecDepth 100000
set_option maxHeartbeats 1000000
/-! DL51: the end over a head by looks, of a law that makes functions -/
namespace DL
open PySem L2
open PySem.Spec PyProof.Rows
theorem walk_ofGET {l : PySem.W.OpenLaw} {n k : Nat} {q : Program} {loose : List Str} {XP : (Str → Option Value) → Heap → Prop} {YP : World → Heap → Prop} {d : DefRec} {CX : CXT} {x : Str}
    (hn : l.most = some n) (hn2 : n ≤ sizeLine) (hdf : d.params.defaults = []) (hr : Room k callerA) (hi : importsNone q = true) (hrec : ((recsOf q).any fun e => e.name == d.name) = true)
    (F : ∀ (w : World) (mg : Str → Option Value) (fa : Addr) (h : Heap), YP w h → h.Ns mainGlobals mg → mg d.name = some (.ref fa) →
      ∃ (K : PySem.W.Frag) (fd : FuncData) (c T : Addr) (sp : Sp), K.In h ∧ (∀ (s : Shared) (u : Value), BindsTo s fd ⟨[u], []⟩ [(x, u)]) ∧ PySem.W.tabIn K d.name = some (c, T) ∧ K.lookup T = none ∧ PySem.W.codeHdIn K c T = true ∧
        (∀ (H : Hp) (a : Addr) (ns : List Int), ns.length ≤ n → H T = some (.tbl #[]) → SqL K H a (ns.map V.int) → sp [.ref a] H (fun v _ => v = .bl true) fun _ _ _ => False) ∧
        ∀ base : Heap, K.In base → base.Ns mainGlobals mg → (∃ o, base.get? sysModules = some o) → LamX.TabB base mg c T → FnG l.prog w K mg base CX k fa fd [x] sp)
    (hCX : ∀ (H : Hp) (s : Shared) (e : Value) (s' : Shared), CX [] H s (fun _ _ _ => False) e s' → False) :
    PySem.W.WalkO q loose XP YP l.row.toRowW d [] (fun f vs => PySem.call f vs) := by
  refine Att.attach_call hn hdf fun w s₀ t mg mb fa o pm cd doc a vs ns G Y ho hd hcd hmg hobj hints hlen hg => ?_
  obtain ⟨K, fd, c, T, sp, KX, hb, h1, h2, h3, hsp, hF⟩ := F w mg fa _ Y G.T.g hmg
  obtain ⟨mm, hm, _⟩ := (PyProof.Rows.Top.seer G.T hi).mods
  obtain ⟨d', hd'⟩ := Option.isSome_iff_exists.mp (List.find?_isSome.mpr (List.any_eq_true.mp hrec))
  obtain ⟨_, hT⟩ := PySem.W.tab_of G.T KX hd' h1
  exact end_callGT KX G.T.g G.T.b G.T.builtins G.T.nolimit ⟨mm, hm⟩ hg hT h2 h3 G.T.bmain hobj hints (Nat.le_trans hlen hn2) hr hF hb (fun H hO hS => hsp H a ns hlen hO hS) fun H e s' => hCX H t e s'
end DL

set_option Elab.async false
set_option linter.all false
set_option maxRecDepth 100000
set_option maxHeartbeats 1000000
namespace Rk
open PySem L2 DL
section
variable {P : Program} {w : World} {K : PySem.W.Frag} {mg : Str → Option Value} {base : Heap}
/-! ### from the heap's promises to the layer of data -/
section
variable {O : Addr → Prop} {H : Hp}
def keyP : PyData → Key
  | .int i => .inl i
  | .str s => .inr s
  | _ => .inl 0
mutual
def dP : PyData → D
  | .none => .non
  | .bool b => .bl b
  | .int i => .int i
  | .str s => .str s
  | .list l => .lst (dPs l)
  | .tuple l => .tup (dPs l)
  | .dict l => .dic (dPk l)
def dPs : List PyData → List D
  | [] => []
  | x :: r => dP x :: dPs r
def dPk : List (PyData × PyData) → List (Key × D)
  | [] => []
  | (k, x) :: r => (keyP k, dP x) :: dPk r
end
theorem keyP_kD (k : Key) : keyP (kD k) = k := by cases k <;> rfl
mutual
theorem DV.r : ∀ {v : V} {x : PyData}, DV O H v x → R O H v (dP x)
  | _, _, .non => by rw [dP]; exact .non
  | _, _, .bl b => by rw [dP]; exact .bl b
  | _, _, .int i => by rw [dP]; exact .int i
  | _, _, .str x => by rw [dP]; exact .str x
  | _, _, .lst n h r => by rw [dP]; exact .lst n h (DVs.r r)
  | _, _, .tup n h r => by rw [dP]; exact .tup n h (DVs.r r)
  | _, _, .dic n h r => by rw [dP]; exact .dic n h (DVk.r r)
theorem DVs.r : ∀ {v : List V} {x : List PyData}, DVs O H v x → Rs O H v (dPs x)
  | _, _, .nil => by rw [dPs]; exact .nil
  | _, _, .cons h r => by rw [dPs]; exact .cons (DV.r h) (DVs.r r)
theorem DVk.r : ∀ {v : List (Key × V)} {x : List (PyData × PyData)}, DVk O H v x → Rk O H v (dPk x)
  | _, _, .nil => by rw [dPk]; exact .nil
  | _, _, .cons h r => by rw [dPk, keyP_kD]; exact .cons (DV.r h) (DVk.r r)
end
mutual
theorem R.dv : ∀ {v : V} {x : D}, R O H v x → plain x = true → DV O H v (py x)
  | _, _, .non, _ => by rw [py]; exact .non
  | _, _, .bl b, _ => by rw [py]; exact .bl b
  | _, _, .int i, _ => by rw [py]; exact .int i
  | _, _, .str x, _ => by rw [py]; exact .str x
  | _, _, .ptr a, h => by simp [DL.plain] at h
  | _, _, .ty s, h => by simp [DL.plain] at h
  | _, _, .lst n e r, h => by rw [py]; exact .lst n e (Rs.dv r (by simpa [DL.plain] using h))
  | _, _, .tup n e r, h => by rw [py]; exact .tup n e (Rs.dv r (by simpa [DL.plain] using h))
  | _, _, .dic n e r, h => by simp [DL.plain] at h
  | _, _, .obj n e r, h => by simp [DL.plain] at h
  | _, _, .exc n e r, h => by simp [DL.plain] at h
  | _, _, .exv n e n2 e2 r, h => by simp [DL.plain] at h
  | _, _, .exn n e, h => by simp [DL.plain] at h
theorem Rs.dv : ∀ {v : List V} {x : List D}, Rs O H v x → plains x = true → DVs O H v (pys x)
  | _, _, .nil, _ => by rw [pys]; exact .nil
  | _, _, .cons a r, h => by
    rw [plains, Bool.and_eq_true] at h
    rw [pys]
    exact .cons (R.dv a h.1) (Rs.dv r h.2)
end
theorem pys_map {α : Type} {f : α → D} {g : α → PyData} (h : ∀ a, py (f a) = g a) : ∀ l : List α, pys (l.map f) = l.map g
  | [] => by simp [pys]
  | a :: l => by rw [List.map_cons, List.map_cons, pys, h a, pys_map h l]
theorem plains_map {α : Type} {f : α → D} (h : ∀ a, plain (f a) = true) : ∀ l : List α, plains (l.map f) = true
  | [] => by simp [plains]
  | a :: l => by rw [List.map_cons, plains, h a, plains_map h l]; rfl
theorem dPs_map {α : Type} {f : α → PyData} {g : α → D} (h : ∀ a, dP (f a) = g a) : ∀ l : List α, dPs (l.map f) = l.map g
  | [] => by simp [dPs]
  | a :: l => by rw [List.map_cons, List.map_cons, dPs, h a, dPs_map h l]
end
/-! ### the feed and the script, kept through a law's def -/
def mS (K : PySem.W.Frag) (d c s : Addr) (ns : List Int) (b : Bool) : Md where
  d := fun a => a = d
  g := fun a => a = d ∨ a = c ∨ (b = true ∧ a = s)
  St := fun n H => Feed H d c ns n ∧ SqL K H s (ns.map V.int) ∧ (b = true → H s ≠ none) ∧ (b = false → ∀ H', SqL K H' s (ns.map V.int))
  W := fun _ _ _ _ => False
  er := fun _ _ _ _ => False
  dg := fun a h => .inl h
  old := fun n H a ⟨F, _, hb, _⟩ h => by
    rcases h with h | h | ⟨h1, h2⟩
    · obtain ⟨l, _, e⟩ := F.fd; rw [h, e]; exact fun z => nomatch z
    · rw [h, F.cl]; exact fun z => nomatch z
    · rw [h2]; exact hb h1
  keep := fun n H H' ⟨F, hs, hb, hn⟩ k0 => by
    have k : ∀ a o, (a = d ∨ a = c ∨ (b = true ∧ a = s)) → H a = some o → H' a = some o := fun a o h e => k0 a o (.inl h) e
    refine ⟨⟨(let ⟨l, l0, e⟩ := F.fd; ⟨l, l0, k d _ (.inl rfl) e⟩), k c _ (.inr (.inl rfl)) F.cl, F.ln⟩, ?_, fun e => ?_, hn⟩
    · cases b with
      | false => exact hn rfl H'
      | true =>
        rcases hs with (hs | ⟨o, hs⟩) | hs
        · exact .inl (.inl (k s _ (.inr (.inr ⟨rfl, rfl⟩)) hs))
        · exact .inl (.inr ⟨o, k s _ (.inr (.inr ⟨rfl, rfl⟩)) hs⟩)
        · exact .inr hs
    · cases z : H s with
      | none => exact absurd z (hb e)
      | some o => rw [k s o (.inr (.inr ⟨e, rfl⟩)) z]; exact fun z => nomatch z
theorem mS_next {d c s : Addr} {ns : List Int} {b : Bool} {n n' : Nat} {H H' : Hp} (h : (mS K d c s ns b).St n H) (k : Keep d H H') (F : Feed H' d c ns n') : (mS K d c s ns b).St n' H' := by
  obtain ⟨F0, hs, hb, hn⟩ := h
  have e0 : ∃ l : Int, H d = some (.dK (fk c n l)) := let ⟨l, _, e⟩ := F0.fd; ⟨l, e⟩
  obtain ⟨l, e0⟩ := e0
  refine ⟨F, ?_, fun e => ?_, hn⟩
  · rcases hs with (hs | ⟨o, hs⟩) | hs
    · exact .inl (.inl (k s _ (fun z => by rw [z, e0] at hs; cases hs) hs))
    · exact .inl (.inr ⟨o, k s _ (fun z => by rw [z, e0] at hs; cases hs) hs⟩)
    · exact .inr hs
  · by_cases z : s = d
    · obtain ⟨l', _, e'⟩ := F.fd
      rw [z, e']; exact fun z => nomatch z
    · cases q : H s with
      | none => exact absurd q (hb e)
      | some o => rw [k s o z q]; exact fun z => nomatch z
theorem kx_of {d : Addr} {H H' : Hp} (k : Keep d H H') : KX (fun a => a = d) H H' := fun b o n e => k b o n e
theorem kxO {d : Addr} {O : Addr → Prop} {H H' : Hp} (hd : O d) (k : Keep d H H') : KX O H H' := fun b o n e => k b o (fun z => n (z ▸ hd)) e
theorem old_not {O : Addr → Prop} {H : Hp} (old : ∀ a, O a → H a ≠ none) {a : Addr} (h : ¬ Old H a) : ¬ O a := fun z => h (old a z)
section
variable {d c s : Addr} {ns : List Int} {b : Bool}
theorem ptr_of {O : Addr → Prop} {H : Hp} {v : V} {a : Addr} (r : R O H v (.ptr a)) : v = .ref a := by cases r; rfl
def TDraw (d : Addr) : FT := fun ds n K => ∃ m : Int, ds = [.ptr d, .int m] ∧ n < 1000000000 ∧ 0 < m ∧ m < 1073741824 ∧ ∀ (r : Int) n', 0 ≤ r → r < m → n' ≤ n + 1 → K (.int r) n'
theorem mono_draw : FMono (TDraw d) := fun ds n K K' h ⟨m, a, b, c, e, k⟩ => ⟨m, a, b, c, e, fun r n' h1 h2 h3 => h _ _ (k r n' h1 h2 h3)⟩
theorem b_draw {k : Nat} {f : Addr} {fd : FuncData} {ps : List Str} (F : FnOk P w K mg base CX0 k f fd ps spDraw) : FnOk P w K mg base CX0 k f fd ps (spM (mS K d c s ns b) (TDraw d)) := F.imp fun vs H Q E ⟨ds, O, n, r, gd, old, st, m, e, h1, h2, h3, q⟩ => by
  subst e
  cases r with
  | cons r1 r =>
    cases r with
    | cons r2 r =>
      cases r
      have e1 := ptr_of r1
      subst e1
      cases r2
      exact ⟨d, c, ns, n, m, rfl, st.1, h1, h2, h3, fun z H' n' a b g F' k' => q z n' a b g (.int z) H' (kx_of k') (mS_next st k' F') (.int z)⟩
def TPick (d : Addr) : FT := fun ds n K => ∃ l : List D, ds = [.ptr d, .lst l] ∧ n < 1000000000 ∧ 0 < l.length ∧ l.length < 1000000 ∧ ∀ x n', x ∈ l → n' ≤ n + 1 → K x n'
theorem mono_pick : FMono (TPick d) := fun ds n K K' h ⟨m, a, b, c, e, k⟩ => ⟨m, a, b, c, e, fun r n' h1 h2 => h _ _ (k r n' h1 h2)⟩
theorem b_pick {k : Nat} {f : Addr} {fd : FuncData} {ps : List Str} (F : FnOk P w K mg base CX0 k f fd ps spPickL) : FnOk P w K mg base CX0 k f fd ps (spM (mS K d c s ns b) (TPick d)) := F.imp fun vs H Q E ⟨ds, O, n, r, gd, old, st, l, e, h1, h2, h3, q⟩ => by
  subst e
  cases r with
  | cons r1 r =>
    cases r with
    | cons r2 r =>
      cases r
      have e1 := ptr_of r1
      subst e1
      cases r2 with
      | lst na ha ra =>
        refine ⟨d, c, ns, n, _, _, rfl, st.1, h1, ha, by rw [ra.length]; exact h2, by rw [ra.length]; exact h3, fun x H' n' hx g F' k' => ?_⟩
        obtain ⟨i, hi, ei⟩ := List.getElem_of_mem hx
        obtain ⟨y, e1, r1⟩ := ra.get (show _ = some x from by rw [List.getElem?_eq_getElem hi, ei])
        exact q y n' (List.mem_of_getElem? e1) g x H' (kx_of k') (mS_next st k' F') (r1.kx (kxO (gd d (.inl rfl)) k'))
/-- a value of the feed that is new -/
def TNew (d : Addr) (ok : List D → Nat → Prop) (g : Nat) (A : D → List D → Prop) : FT := fun ds n K => ok ds n ∧ ∀ x n', A x ds → n' ≤ n + g → K x n'
theorem mono_new {ok : List D → Nat → Prop} {g : Nat} {A : D → List D → Prop} : FMono (TNew d ok g A) := fun ds n K K' h ⟨a, k⟩ => ⟨a, fun r n' h1 h2 => h _ _ (k r n' h1 h2)⟩
def strsD (zs : List Str) : D := .lst (zs.map D.str)
theorem rs_strs {O : Addr → Prop} {H : Hp} : ∀ {zs : List Str}, Rs O H (zs.map V.str) (zs.map D.str)
  | [] => .nil
  | _ :: _ => .cons (.str _) rs_strs
def TPickS (d : Addr) : FT := fun ds n K => ∃ z : Str, ds = [.ptr d, .str z] ∧ n < 1000000000 ∧ 0 < z.cps.toList.length ∧ z.cps.toList.length < 10000 ∧ ∀ x n', x ∈ z.cps.toList → n' ≤ n + 1 → K (.str ⟨#[x]⟩) n'
theorem mono_pickS : FMono (TPickS d) := fun ds n K K' h ⟨m, a, b, c, e, k⟩ => ⟨m, a, b, c, e, fun r n' h1 h2 => h _ _ (k r n' h1 h2)⟩
theorem b_pickS {k : Nat} {f : Addr} {fd : FuncData} {ps : List Str} (F : FnOk P w K mg base CX0 k f fd ps spPickS) : FnOk P w K mg base CX0 k f fd ps (spM (mS K d c s ns b) (TPickS d)) := F.imp fun vs H Q E ⟨ds, O, n, r, gd, old, st, z, e, h1, h2, h3, q⟩ => by
  subst e
  cases r with
  | cons r1 r =>
    cases r with
    | cons r2 r =>
      cases r
      have e1 := ptr_of r1
      subst e1
      cases r2
      exact ⟨d, c, ns, n, z, rfl, st.1, h1, h2, h3, fun x H' n' hx g F' k' => q x n' hx g _ H' (kx_of k') (mS_next st k' F') (.str _)⟩
theorem strs_inv {O : Addr → Prop} {H : Hp} : ∀ {zs : List Str} {vs : List V}, Rs O H vs (zs.map D.str) → vs = zs.map V.str
  | [], _, h => by cases h; rfl
  | z :: zs, _, h => by
    cases h with
    | cons a r => cases a; rw [strs_inv r]; rfl
end
end
end Rk

set_option Elab.async false
set_option linter.all false
set_option maxRecDepth 100000
set_option maxHeartbeats 1000000
namespace Rk
open PySem L2 DL
section
variable {P : Program} {w : World} {K : PySem.W.Frag} {mg : Str → Option Value} {base : Heap}
/-! ### any value -/
def leafs : List PyData := [.none, .bool true, .bool false, .int 0, .int 1, .int (-1), .int 12, .int (10 ^ 29), .str "", .str "a", .str "abcdefgh", .str "abcdefghi", .str "A", .str "a b", .str "a1", .str "0", .str "zz"]
def leafs2 : List PyData := [.str "~", .str "#", .str "a\n", .tuple [], .list [], .dict [], .tuple [.str "a", .int 1, .none], .list [.tuple [.str "a", .int 1, .none]], .tuple [.str "lay", .str "a"], .dict [(.str "a", .int 1)]]
inductive AnyD : Nat → PyData → Prop
  | leaf {k : Nat} {x : PyData} : x ∈ leafs ++ leafs2 → AnyD k x
  | lst {k : Nat} {ds : List PyData} : ds.length ≤ 3 → (∀ x ∈ ds, AnyD k x) → AnyD (k + 1) (.list ds)
  | tup {k : Nat} {ds : List PyData} : ds.length ≤ 3 → (∀ x ∈ ds, AnyD k x) → AnyD (k + 1) (.tuple ds)
  | dic {k : Nat} {ds : List PyData} : ds.length ≤ 3 → (∀ x ∈ ds, AnyD k x) → AnyD (k + 1) (.dict [(.str "a", .tuple ds)])
def cost : Nat → Nat
  | 0 => 1
  | k + 1 => 2 + 3 * cost k
theorem cost_pos : ∀ k : Nat, 1 ≤ cost k
  | 0 => Nat.le_refl _
  | k + 1 => by show 1 ≤ 2 + 3 * cost k; omega
def spAny (k : Nat) : Sp := fun vs H Q _ => ∃ (d c : Addr) (ns : List Int) (n : Nat), vs = [.ref d, .int k] ∧ Feed H d c ns n ∧ n + cost k < 1000000000 ∧
  ∀ (v : V) (x : PyData) (H' : Hp) (n' : Nat), DV (Old H) H' v x → AnyD k x → n' ≤ n + cost k → Feed H' d c ns n' → Keep d H H' → Q v H'
def spAnyP : Nat → Sp
  | 0 => fun _ _ _ _ => False
  | k + 1 => spAny k
theorem scAny : FnScope ["_law_feed_here", "_law_deep", "_law_some", "_law_inner", "_law_k"] ["_law_feed_here", "_law_deep"] (defScope sAny) := ⟨rfl, rfl, rfl, by decide +kernel, rfl, by decide +kernel, by decide +kernel⟩
theorem ok_anyS {f fD fP : Addr} {fd fdD fdP : FuncData} (k : Nat) (DA : DefAt K mg "_law_any" sAny ["_law_feed_here", "_law_deep"] f fd) (T : Txt mg) (D : DefAt K mg "_law_draw" sDraw ["_law_feed_here", "_law_many"] fD fdD) (DP : DefAt K mg "_law_pick" sPick ["_law_feed_here", "_law_options"] fP fdP)
    (GA : FnOk P w K mg base CX0 (k + 2) f fd ["_law_feed_here", "_law_deep"] (spAnyP k)) : FnOk P w K mg base CX0 (k + 3) f fd ["_law_feed_here", "_law_deep"] (spAny k) := by
  have GD : FnOk P w K mg base CX0 1 fD fdD ["_law_feed_here", "_law_many"] spDraw := ok_draw D.F T
  have GPl : FnOk P w K mg base CX0 2 fP fdP ["_law_feed_here", "_law_options"] spPickL := ok_pickL DP.F T D
  refine DA.F.ok scAny (fun vs H Q E h => ?_) (fun cdv A outer s H vs Q E hr h => ?_)
  · obtain ⟨d, c, ns, n, rfl, _⟩ := h
    rfl
  · obtain ⟨d, c, ns, n, rfl, FD, hn, q⟩ := h
    have hu := hu_of hr
    have nd := scAny.nd
    have hr1 : Room 1 _ := hr.mono (by omega)
    have hr2 : Room 2 _ := hr.mono (by omega)
    refine ⟨_, (pss_cons (ps_set (i := 2) nd rfl (.inl rfl) (pe_lst (pa_cons pe_non (pa_cons pe_bl (pa_cons pe_bl (pa_cons pe_int (pa_cons pe_int (pa_cons (pe_un un_neg pe_int) (pa_cons pe_int (pa_cons (pe_op op_pow pe_int pe_int) (pa_cons pe_str (pa_cons pe_str (pa_cons pe_str (pa_cons pe_str (pa_cons pe_str (pa_cons pe_str (pa_cons pe_str (pa_cons pe_str (pa_cons pe_str pa_nil)))))))))))))))))))
    (pss_cons (ps_set (i := 2) nd rfl (.inl rfl) (pe_op op_cat (pv 2) (pe_lst (pa_cons pe_str (pa_cons pe_str (pa_cons pe_str (pa_cons (pe_tup pa_nil) (pa_cons (pe_lst pa_nil) (pa_cons pe_dnewK (pa_cons (pe_tup (pa_cons pe_str (pa_cons pe_int (pa_cons pe_non pa_nil)))) (pa_cons (pe_lst (pa_cons (pe_tup (pa_cons pe_str (pa_cons pe_int (pa_cons pe_non pa_nil)))) pa_nil)) (pa_cons (pe_tup (pa_cons pe_str (pa_cons pe_str pa_nil))) (pa_cons (pe_disp (pps_cons pe_str pe_int pps_nil) (by rfl) (by rfl) (fun z => by cases z) (by decide)) pa_nil)))))))))))))
    (C8.pss_cut (ps_if (pt_cmpR op_gt (pv 1) pe_int (nomark _))
      (pss_cons (ps_setLc (i := 3) (own := [("_law_k", 4)]) (g := gName 4) rfl nd rfl rfl (sw_true rfl rfl rfl (by decide +kernel)) (pi_range1 (by rfl) T.range (pa_cons (pe_call GD hr1 (by rfl) D.M D.F.kp D.B .nil pass0 (pa_cons (pv 0) (pa_cons pe_int pa_nil))) pa_nil)) (blkOk_by (own := [("_law_k", 4)]) (N := ["_law_feed_here", "_law_deep", "_law_some", "_law_inner", "_law_k"]) (sc := defScope sAny) (by decide +kernel)) (fun _ _ _ _ _ => (pg_name (i := 4) nd rfl (Or.inl rfl))) (fun _ _ _ _ _ => pts_nil) (fun _ _ _ _ _ => (pe_call GA hr (by rfl) DA.M DA.F.kp DA.B .nil pass0 (pa_cons (pv 0) (pa_cons (pe_op op_sub (pv 1) pe_int) pa_nil)))))
    (pss_one (ps_set (i := 2) nd rfl (.inl rfl) (pe_op op_cat (pv 2) (pe_lst (pa_cons (pv 3) (pa_cons (pe_callTy call_tuple_of (by rfl) T.tuple (by decide +kernel) (pa_cons (pv 3) pa_nil)) (pa_cons (pe_disp (pps_cons pe_str (pe_callTy call_tuple_of (by rfl) T.tuple (by decide +kernel) (pa_cons (pv 3) pa_nil)) pps_nil) (by rfl) (by rfl) (fun z => by cases z) (by decide)) pa_nil))))))))
      pss_nil)
    (pss_one (ps_ret (pe_call GPl hr2 (by rfl) DP.M DP.F.kp DP.B .nil pass0 (pa_cons (pv 0) (pa_cons (pv 2) pa_nil)))))))), ?_⟩
    -- some = [..]
    refine ⟨1, rfl, 10, 29, rfl, rfl, ⟨by decide, by decide, by decide⟩, (by show 17 ≤ sizeLine; decide), fun p np => ?_⟩
    obtain ⟨U1, r1, F1, k1, h1, n1⟩ := nu FD np
    rw [r1]
    -- some + ['~', ..]
    refine ⟨.ref p, rfl, Nat.zero_le _, fun p1 np1 => ?_⟩
    obtain ⟨U2, r2, F2, k2, h2, n2⟩ := nu (F1 _) np1
    rw [r2]
    refine ⟨Nat.zero_le _, fun p2 np2 => ?_⟩
    obtain ⟨U3, r3, F3, k3, h3, n3⟩ := nu (F2 _) np2
    rw [r3]
    intro p3 np3
    obtain ⟨U4, r4, F4, k4, h4, n4⟩ := nu (F3 _) np3
    rw [r4]
    refine ⟨(by show 3 ≤ sizeLine; decide), fun p4 np4 => ?_⟩
    obtain ⟨U5, r5, F5, k5, h5, n5⟩ := nu (F4 _) np4
    rw [r5]
    refine ⟨(by show 3 ≤ sizeLine; decide), fun p5 np5 => ?_⟩
    obtain ⟨U6, r6, F6, k6, h6, n6⟩ := nu (F5 _) np5
    rw [r6]
    refine ⟨(by show 1 ≤ sizeLine; decide), fun p6 np6 => ?_⟩
    obtain ⟨U7, r7, F7, k7, h7, n7⟩ := nu (F6 _) np6
    rw [r7]
    refine ⟨(by show 2 ≤ sizeLine; decide), fun p7 np7 => ?_⟩
    obtain ⟨U8, r8, F8, k8, h8, n8⟩ := nu (F7 _) np7
    rw [r8]
    intro p8 np8
    have n9 := (F8 _).nd np8
    have e9 := (F8 _).nc np8
    have F9 := (F8 _).new (o := .dK []) np8
    refine ⟨upd_same, [(Sum.inr "a", .int 1)], rfl, (by show 1 ≤ 15; decide), ?_⟩
    obtain ⟨U10, r10, F10, k10, h10, _⟩ := fu F9 np8 (fun b o _ nb e => by rw [upd_ne nb]; exact e) n9 e9
    rw [r10]
    refine ⟨(by show 10 ≤ sizeLine; decide), fun p9 np9 => ?_⟩
    obtain ⟨U11, r11, F11, k11, h11, n11⟩ := nu (F10 _) np9
    rw [r11]
    refine ⟨p, p9, _, _, rfl, rfl, ((k2 _).trans ((k3 _).trans ((k4 _).trans ((k5 _).trans ((k6 _).trans ((k7 _).trans ((k8 _).trans ((k10 _).trans (k11 _))))))))) _ _ n1 (h1 _), h11 _, (by show 17 + 10 ≤ sizeLine; decide), fun p10 np10 => ?_⟩
    obtain ⟨U12, r12, F12, k12, h12, n12⟩ := nu (F11 _) np10
    rw [r12]
    have i10 := fun o => (k11 _).trans (k12 o)
    have i8 := fun o => (k10 _).trans (i10 o)
    have i7 := fun o => (k8 _).trans (i8 o)
    have i6 := fun o => (k7 _).trans (i7 o)
    have i5 := fun o => (k6 _).trans (i6 o)
    have i4 := fun o => (k5 _).trans (i5 o)
    have i3 := fun o => (k4 _).trans (i4 o)
    have i2 := fun o => (k3 _).trans (i3 o)
    have K12 := fun o => (k1 _).trans ((k2 _).trans (i2 o))
    have z1 := (k1 _).free n2 np1
    have t2 := fun o => (k1 _).trans (k2 o)
    have z2 := (t2 _).free n3 np2
    have t3 := fun o => (t2 _).trans (k3 o)
    have z3 := (t3 _).free n4 np3
    have t4 := fun o => (t3 _).trans (k4 o)
    have z4 := (t4 _).free n5 np4
    have t5 := fun o => (t4 _).trans (k5 o)
    have z5 := (t5 _).free n6 np5
    have t6 := fun o => (t5 _).trans (k6 o)
    have z6 := (t6 _).free n7 np6
    have t7 := fun o => (t6 _).trans (k7 o)
    have z7 := (t7 _).free n8 np7
    have t8 := fun o => (t7 _).trans (k8 o)
    have z8 := (t8 _).free n9 np8
    have S : ∀ o, DVs (Old H) (U12 o) _ (leafs ++ leafs2) := fun o => DVs.append
      (.cons .non (.cons (.bl true) (.cons (.bl false) (.cons (.int _) (.cons (.int _) (.cons (.int _) (.cons (.int _) (.cons (.int _) (.cons (.str _) (.cons (.str _) (.cons (.str _) (.cons (.str _) (.cons (.str _) (.cons (.str _) (.cons (.str _) (.cons (.str _) (.cons (.str _) .nil)))))))))))))))))
      (.cons (.str _) (.cons (.str _) (.cons (.str _) (.cons (.tup z1 (i2 o _ _ n2 (h2 _)) .nil) (.cons (.lst z2 (i3 o _ _ n3 (h3 _)) .nil) (.cons (.dic z3 (i4 o _ _ n4 (h4 _)) .nil)
        (.cons (.tup z4 (i5 o _ _ n5 (h5 _)) (.cons (.str _) (.cons (.int _) (.cons .non .nil))))
        (.cons (.lst z6 (i7 o _ _ n7 (h7 _)) (.cons (.tup z5 (i6 o _ _ n6 (h6 _)) (.cons (.str _) (.cons (.int _) (.cons .non .nil)))) .nil))
        (.cons (.tup z7 (i8 o _ _ n8 (h8 _)) (.cons (.str _) (.cons (.str _) .nil)))
        (.cons (.dic z8 (i10 o _ _ n9 (h10 _)) (.cons (k := Sum.inr "a") (.int _) .nil)) .nil))))))))))
    -- if deep > 0
    refine ⟨fun σ H' => ∃ (n' : Nat) (a : Addr) (xs : List V) (ds : List PyData) (y3 y4 : Option V), σ = [some (.ref d), some (.int k), some (.ref a), y3, y4] ∧ n' + 1 ≤ n + cost k ∧ Feed H' d c ns n' ∧ Keep d H H' ∧
      H' a = some (.lst xs) ∧ DVs (Old H) H' xs ds ∧ (∀ x ∈ ds, AnyD k x) ∧ 0 < xs.length ∧ xs.length ≤ 30, ?_, ?_⟩
    · refine ⟨_, rfl, _, _, rfl, rfl, _, rfl, ?_⟩
      cases k with
      | zero => exact iteF ⟨n, p10, _, _, none, none, rfl, Nat.le_refl _, F12 _, K12 _, h12 _, S _, fun x hx => .leaf hx, by show 0 < 27; decide, by show 27 ≤ 30; decide⟩
      | succ k =>
        have hc : cost (k + 1) = 2 + 3 * cost k := rfl
        have hc1 := cost_pos k
        have e1 : ((k + 1 : Nat) : Int) - 1 = (k : Int) := by omega
        refine ite2 (fun _ => ?_) (fun hno => absurd (decide_eq_true (show (0 : Int) < ((k + 1 : Nat) : Int) by omega)) hno)
        -- inner = [any(..) for ..]
        refine ⟨.ref d, rfl, d, c, ns, n, 4, rfl, F12 _, by omega, by decide, by decide, fun r H13 n13 r0 r4 hn13 F13 K13 => ⟨r, rfl, by omega, by omega, fun D nD => ?_⟩⟩
        refine lc_range (lo := 0) (n := r.toNat) (fun i Hi => ∃ (n' : Nat) (acc : List V) (ds : List PyData), n' ≤ n + 1 + i * cost k ∧ Feed Hi d c ns n' ∧ Keep d H13 Hi ∧ Hi D = some (.lst acc) ∧ acc.length = i ∧ DVs (fun a => Old H13 a ∨ a = D) Hi acc ds ∧ ∀ x ∈ ds, AnyD k x) ?_ ?_ ?_
        · obtain ⟨U, r, F, k', h, _⟩ := nu F13 nD
          rw [r]
          exact ⟨n13, [], [], by omega, F _, k' _, h _, rfl, .nil, fun x hx => nomatch hx⟩
        · rintro i Hi hi ⟨n', acc, ds, hn', Fi, ki, hD, hl, Si, Pi⟩
          have hi3 : i + 1 ≤ 3 := by omega
          have hb : i * cost k + cost k ≤ 3 * cost k := by
            have := Nat.mul_le_mul_right (cost k) hi3
            rw [Nat.add_mul, Nat.one_mul] at this
            exact this
          refine ⟨rfl, ?_⟩
          refine ⟨.ref d, rfl, _, rfl, _, _, rfl, rfl, d, c, ns, n', (by show [V.ref d, V.int (((k + 1 : Nat) : Int) - 1)] = _; rw [e1]), Fi, by omega, fun v x H' n'' dv pa hn'' F' K' => ?_⟩
          have hnD : D ≠ d := F13.nd nD
          have nc : D ≠ c := F13.nc nD
          have hD' := K' _ _ hnD hD
          obtain ⟨U, r, F, k', h, ho⟩ := fu F' nD (fun b o nb nb' e => K' _ _ nb (ki _ _ nb e)) hnD nc
          refine ⟨acc, hD', (by rw [hl]; exact small1000 (by omega)), n'', acc ++ [v], ds ++ [x], (by rw [Nat.add_mul]; omega), ?_⟩
          rw [r]
          refine ⟨F _, k' _, h _, (by rw [List.length_append, hl]; rfl), ?_, fun y hy => ?_⟩
          · have oD : Old Hi D := old_of hD
            have o13 : ∀ a, Old H13 a → Old Hi a := fun a => Old.mono (X := fun _ => True) ki Fi.old
            refine (DVs.append (Si.keep fun b o nb e => ⟨K' _ _ (fun z => nb (.inl (z ▸ F13.old))) e, nb⟩) (.cons (dv.keep fun b o nb e => ⟨e, fun z => nb (z.elim (o13 b) fun z => z ▸ oD)⟩) .nil)).keep fun b o nb e => ⟨?_, nb⟩
            exact Eq.trans (ho _ b fun z => nb (.inr z)) e
          · rcases List.mem_append.mp hy with hy | hy
            · exact Pi y hy
            · cases List.mem_singleton.mp hy
              exact pa
        · rintro H14 ⟨n14, acc, ds, hn14, F14, K14, hD, hl, S14, P14⟩
          have hi3 : acc.length * cost k ≤ 3 * cost k := Nat.mul_le_mul_right _ (by omega)
          rw [hl] at hi3
          have hl3 : acc.length ≤ 3 := by omega
          have hnD : D ≠ d := F13.nd nD
          have K013 : Keep d H H14 := (K12 _).trans (K13.trans K14)
          have fD : ¬ Old H D := ((K12 _).trans K13).free hnD nD
          have o13 : ∀ a, Old H a → Old H13 a := fun a => Old.mono (X := fun _ => True) ((K12 _).trans K13) F13.old
          have SA : DVs (Old H) H14 acc ds := S14.keep fun b o nb e => ⟨e, fun z => nb (.inl (o13 b z))⟩
          have SP := (S _).keep fun b o nb e => ⟨(K13.trans K14) b o (fun z => nb (z ▸ FD.old)) e, nb⟩
          have hp := (K13.trans K14) _ _ n12 (h12 _)
          clear S r1 r2 r3 r4 r5 r6 r7 r8 r10 r11 r12
          -- some + [inner, tuple(inner), {'a': tuple(inner)}]
          refine ⟨.ref p10, rfl, .ref D, rfl, .ref D, rfl, D, acc, rfl, .inl ⟨.inl (.inl hD), fun l1 nl1 => ?_⟩⟩
          obtain ⟨V1, r1, G1, j1, g1, m1⟩ := nu F14 nl1
          rw [r1]
          intro l2 nl2
          have m2 := (G1 _).nd nl2
          have e2 := (G1 _).nc nl2
          have G2 := (G1 _).new (o := .dK []) nl2
          have hD2 := (Keep.new (o := .dK []) nl2) _ _ hnD ((j1 _) _ _ hnD hD)
          refine ⟨.ref D, rfl, D, acc, rfl, .inl ⟨.inl (.inl hD2), fun l3 nl3 => ?_⟩⟩
          obtain ⟨V3, r3, G3, j3, g3, m3⟩ := nu G2 nl3
          rw [r3]
          have nl32 : l3 ≠ l2 := fun e => by rw [e, upd_same] at nl3; cases nl3
          refine ⟨(j3 _) _ _ m2 upd_same, [(Sum.inr "a", .ref l3)], rfl, (by show 1 ≤ 15; decide), ?_⟩
          obtain ⟨V4, r4, G4, j4, g4, ho4⟩ := fu (G3 _) nl2 (fun b o nb nb' e => (j3 _) _ _ nb (by rw [upd_ne nb']; exact e)) m2 e2
          rw [r4]
          refine ⟨(by show 3 ≤ sizeLine; decide), fun l5 nl5 => ?_⟩
          obtain ⟨V5, r5, G5, j5, g5, m5⟩ := nu (G4 _) nl5
          rw [r5]
          refine ⟨p10, l5, _, _, rfl, rfl, ((j1 _).trans ((j4 _).trans (j5 _))) _ _ n12 hp, g5 _, (by show 27 + 3 ≤ sizeLine; decide), fun l6 nl6 => ?_⟩
          obtain ⟨V6, r6, G6, j6, g6, m6⟩ := nu (G5 _) nl6
          rw [r6]
          have K6 := fun o => (j1 _).trans ((j4 _).trans ((j5 _).trans (j6 o)))
          have K46 := fun o => (j5 _).trans (j6 o)
          have K16 := fun o => (j4 _).trans (K46 o)
          have kk := fun o => (fun (b : Addr) (x : HO) (nb : ¬ Old H b) (e : H14 b = some x) => (⟨K6 o b x (fun z => nb (z ▸ FD.old)) e, nb⟩ : V6 o b = some x ∧ ¬ Old H b))
          have fl1 : ¬ Old H l1 := K013.free m1 nl1
          have fl2 : ¬ Old H l2 := (K013.trans (j1 _)).free m2 nl2
          have fl3 : ¬ Old H l3 := ((K013.trans (j1 _)).trans (Keep.new (o := .dK []) nl2)).free m3 nl3
          have g43 := Eq.trans (ho4 (.dK (mergeK [] [(Sum.inr "a", .ref l3)])) l3 nl32) (g3 _)
          have hD6 := fun o => K6 o _ _ hnD hD
          have S3 := fun o => (DVs.cons (X := Old H) (H := V6 o) (.lst fD (hD6 o) (SA.keep (kk o))) (.cons (.tup fl1 (K16 o _ _ m1 (g1 _)) (SA.keep (kk o)))
            (.cons (.dic fl2 (K46 o _ _ m2 (g4 _)) (.cons (k := Sum.inr "a") (.tup fl3 (K46 o _ _ m3 g43) (SA.keep (kk o))) .nil)) .nil)))
          have hds : ds.length ≤ 3 := by rw [← S14.length]; exact hl3
          refine ⟨n14, l6, _, _, _, _, rfl, by omega, G6 _, K013.trans (K6 _), g6 _, (SP.keep (kk _)).append (S3 _), fun x hx => ?_, by show 0 < 27 + 3; decide, by show 27 + 3 ≤ 30; decide⟩
          rcases List.mem_append.mp hx with hx | hx
          · exact .leaf hx
          · rcases List.mem_cons.mp hx with rfl | hx
            · exact .lst hds P14
            · rcases List.mem_cons.mp hx with rfl | hx
              · exact .tup hds P14
              · cases List.mem_singleton.mp hx
                exact .dic hds P14
    · rintro σ H' ⟨n', a, xs, ds, y3, y4, rfl, hn', F', K', ha, S', P', h0, h30⟩
      refine ⟨.ref d, rfl, .ref a, rfl, d, c, ns, n', a, xs, rfl, F', by omega, ha, h0, by omega, fun x H2 n2 hx hn2 F2 K2 => ?_⟩
      obtain ⟨y, hy, dy⟩ := S'.mem hx
      exact q x y H2 n2 (dy.keep (K2.old FD.old)) (P' y hy) (by omega) F2 (K'.trans K2)
theorem ok_any {f fD fP : Addr} {fd fdD fdP : FuncData} (DA : DefAt K mg "_law_any" sAny ["_law_feed_here", "_law_deep"] f fd) (T : Txt mg) (D : DefAt K mg "_law_draw" sDraw ["_law_feed_here", "_law_many"] fD fdD) (DP : DefAt K mg "_law_pick" sPick ["_law_feed_here", "_law_options"] fP fdP) :
    ∀ k : Nat, FnOk P w K mg base CX0 (k + 3) f fd ["_law_feed_here", "_law_deep"] (spAny k)
  | 0 => ok_anyS 0 DA T D DP ⟨fun _ _ _ _ h => h.elim, fun _ _ _ _ _ _ _ _ _ _ _ _ _ h => h.elim⟩
  | k + 1 => ok_anyS (k + 1) DA T D DP (ok_any DA T D DP k)
open DL in
/-- .. and any value -/
def TAny (d : Addr) : FT := fun ds n K => ∃ k : Nat, ds = [.ptr d, .int k] ∧ k ≤ 2 ∧ n + cost k < 1000000000 ∧ ∀ x n', AnyD k x → n' ≤ n + cost k → K (dP x) n'
open DL in
theorem mono_any {d : Addr} : FMono (TAny d) := fun ds n K K' h ⟨k, a, b, c, q⟩ => ⟨k, a, b, c, fun x n' h1 h2 => h _ _ (q x n' h1 h2)⟩
section
open DL
variable {d c s : Addr} {ns : List Int} {b : Bool}
theorem b_any {f : Addr} {fd : FuncData} {ps : List Str} (F : ∀ k, FnOk P w K mg base CX0 (k + 3) f fd ps (spAny k)) : FnOk P w K mg base CX0 5 f fd ps (spM (mS K d c s ns b) (TAny d)) := by
  refine ⟨fun vs H Q E h => ?_, fun A outer s' H args us vs Q E hr he hb r h => ?_⟩
  · obtain ⟨ds, O, n, r, gd, old, st, k, e, hk, h1, q⟩ := h
    subst e
    cases r with
    | cons r1 r =>
      cases r with
      | cons r2 r =>
        cases r
        have e1 := ptr_of r1
        subst e1
        cases r2
        exact (F k).len _ H Q E ⟨d, c, ns, n, rfl, st.1, h1, fun v x H' n' hv hx g F' k' => q x n' hx g v H' (kx_of k') (mS_next st k' F') ((hv.r).keep fun b o n e => ⟨e, fun z => n (fun y => old b z y)⟩)⟩
  · obtain ⟨ds, O, n, r0, gd, old, st, k, e, hk, h1, q⟩ := h
    subst e
    cases r0 with
    | cons r1 r0 =>
      cases r0 with
      | cons r2 r0 =>
        cases r0
        have e1 := ptr_of r1
        subst e1
        cases r2
        exact (F k).run A outer s' H args us _ Q E (hr.mono (by omega)) he hb r ⟨d, c, ns, n, rfl, st.1, h1, fun v x H' n' hv hx g F' k' => q x n' hx g v H' (kx_of k') (mS_next st k' F') ((hv.r).keep fun b o n e => ⟨e, fun z => n (fun y => old b z y)⟩)⟩
end
end
end Rk

set_option Elab.async false
set_option linter.all false
set_option maxRecDepth 100000
set_option maxHeartbeats 1000000
namespace Rk
open PySem L2 DL
section
variable {P : Program} {w : World} {K : PySem.W.Frag} {mg : Str → Option Value} {base : Heap}
/-! ### sections, made and compared; levels, indices -/
/-! levels, indices -/
def isIntT : D → Bool
  | .int _ => true
  | _ => false
def idxB : D → Nat → Bool
  | .int i, n => decide (0 ≤ i) && decide (i < n)
  | _, _ => false
def TIsInt : CD := fun ds Q => ∃ d t, ds = [d] ∧ tyN d = some t ∧ Q (.bl (isIntT d))
theorem mono_isint : CMono TIsInt := fun ds Q Q' h ⟨d, t, e, a, q⟩ => ⟨d, t, e, a, h _ q⟩
theorem d_level {f : Addr} {fd : FuncData} (F : Fun K "is_level" "is_level" sIsLevel f fd) (T : Txt mg) : FnOk P w K mg base CX0 1 f fd ["value"] (spP TIsInt) := by
  refine fn_okP F ⟨rfl, rfl, rfl, by decide +kernel, rfl, by decide +kernel, by decide +kernel⟩ (N := ["value"]) (fun ds Q h => ?_) (fun cdv A outer s H E hr => ?_)
  · obtain ⟨d, t, e, _⟩ := h
    rw [e]; rfl
  · have nd : (["value"] : List Str).Nodup := by decide +kernel
    refine ⟨_, (ss_one (s_ret (v_and (v_callB call_isi (k_isi (KK := K)) (by rfl) T.isinstance (by decide +kernel) (a_cons (vn 0) (a_cons (v_bltn (v := .ty "int") (d := .ty "int") (by rfl) T.int (by decide +kernel) rfl (fun _ _ => .ty _)) a_nil))) (v_one (v_not (v_callB call_isi (k_isi (KK := K)) (by rfl) T.isinstance (by decide +kernel) (a_cons (vn 0) (a_cons (v_bltn (v := .ty "bool") (d := .ty "bool") (by rfl) T.bool (by decide +kernel) rfl (fun _ _ => .ty _)) a_nil)))))))), fun ds Q h => ?_⟩
    obtain ⟨d, t, e, ht, q⟩ := h
    subst e
    cases d with
    | int i => cases ht; exact ⟨_, rfl, _, _, _, _, rfl, rfl, (by decide +kernel : kitB "int" "int" = some true), _, rfl, (by rw [if_pos rfl]; exact ⟨_, rfl, _, _, _, _, rfl, rfl, (by decide +kernel : kitB "int" "bool" = some false), _, rfl, q⟩)⟩
    | bl i => cases ht; exact ⟨_, rfl, _, _, _, _, rfl, rfl, (by decide +kernel : kitB "bool" "int" = some true), _, rfl, (by rw [if_pos rfl]; exact ⟨_, rfl, _, _, _, _, rfl, rfl, (by decide +kernel : kitB "bool" "bool" = some true), _, rfl, q⟩)⟩
    | non => cases ht; exact ⟨_, rfl, _, _, _, _, rfl, rfl, (by decide +kernel : kitB "NoneType" "int" = some false), _, rfl, (by rw [if_neg (by decide)]; exact q)⟩
    | str i => cases ht; exact ⟨_, rfl, _, _, _, _, rfl, rfl, (by decide +kernel : kitB "str" "int" = some false), _, rfl, (by rw [if_neg (by decide)]; exact q)⟩
    | lst i => cases ht; exact ⟨_, rfl, _, _, _, _, rfl, rfl, (by decide +kernel : kitB "list" "int" = some false), _, rfl, (by rw [if_neg (by decide)]; exact q)⟩
    | tup i => cases ht; exact ⟨_, rfl, _, _, _, _, rfl, rfl, (by decide +kernel : kitB "tuple" "int" = some false), _, rfl, (by rw [if_neg (by decide)]; exact q)⟩
    | dic i => cases ht; exact ⟨_, rfl, _, _, _, _, rfl, rfl, (by decide +kernel : kitB "dict" "int" = some false), _, rfl, (by rw [if_neg (by decide)]; exact q)⟩
    | ptr => cases ht
    | ty => cases ht
    | obj => cases ht
    | exc => cases ht
    | exv => cases ht
    | exn => cases ht
theorem d_isint {f : Addr} {fd : FuncData} (F : Fun K "_law_is_int" "_law_is_int" sIsInt f fd) (T : Txt mg) : FnOk P w K mg base CX0 1 f fd ["_law_value"] (spP TIsInt) := by
  refine fn_okP F ⟨rfl, rfl, rfl, by decide +kernel, rfl, by decide +kernel, by decide +kernel⟩ (N := ["_law_value"]) (fun ds Q h => ?_) (fun cdv A outer s H E hr => ?_)
  · obtain ⟨d, t, e, _⟩ := h
    rw [e]; rfl
  · have nd : (["_law_value"] : List Str).Nodup := by decide +kernel
    refine ⟨_, (ss_one (s_ret (v_and (v_callB call_isi (k_isi (KK := K)) (by rfl) T.isinstance (by decide +kernel) (a_cons (vn 0) (a_cons (v_bltn (v := .ty "int") (d := .ty "int") (by rfl) T.int (by decide +kernel) rfl (fun _ _ => .ty _)) a_nil))) (v_one (v_not (v_callB call_isi (k_isi (KK := K)) (by rfl) T.isinstance (by decide +kernel) (a_cons (vn 0) (a_cons (v_bltn (v := .ty "bool") (d := .ty "bool") (by rfl) T.bool (by decide +kernel) rfl (fun _ _ => .ty _)) a_nil)))))))), fun ds Q h => ?_⟩
    obtain ⟨d, t, e, ht, q⟩ := h
    subst e
    cases d with
    | int i => cases ht; exact ⟨_, rfl, _, _, _, _, rfl, rfl, (by decide +kernel : kitB "int" "int" = some true), _, rfl, (by rw [if_pos rfl]; exact ⟨_, rfl, _, _, _, _, rfl, rfl, (by decide +kernel : kitB "int" "bool" = some false), _, rfl, q⟩)⟩
    | bl i => cases ht; exact ⟨_, rfl, _, _, _, _, rfl, rfl, (by decide +kernel : kitB "bool" "int" = some true), _, rfl, (by rw [if_pos rfl]; exact ⟨_, rfl, _, _, _, _, rfl, rfl, (by decide +kernel : kitB "bool" "bool" = some true), _, rfl, q⟩)⟩
    | non => cases ht; exact ⟨_, rfl, _, _, _, _, rfl, rfl, (by decide +kernel : kitB "NoneType" "int" = some false), _, rfl, (by rw [if_neg (by decide)]; exact q)⟩
    | str i => cases ht; exact ⟨_, rfl, _, _, _, _, rfl, rfl, (by decide +kernel : kitB "str" "int" = some false), _, rfl, (by rw [if_neg (by decide)]; exact q)⟩
    | lst i => cases ht; exact ⟨_, rfl, _, _, _, _, rfl, rfl, (by decide +kernel : kitB "list" "int" = some false), _, rfl, (by rw [if_neg (by decide)]; exact q)⟩
    | tup i => cases ht; exact ⟨_, rfl, _, _, _, _, rfl, rfl, (by decide +kernel : kitB "tuple" "int" = some false), _, rfl, (by rw [if_neg (by decide)]; exact q)⟩
    | dic i => cases ht; exact ⟨_, rfl, _, _, _, _, rfl, rfl, (by decide +kernel : kitB "dict" "int" = some false), _, rfl, (by rw [if_neg (by decide)]; exact q)⟩
    | ptr => cases ht
    | ty => cases ht
    | obj => cases ht
    | exc => cases ht
    | exv => cases ht
    | exn => cases ht
def TIndex : CD := fun ds Q => ∃ d t, ∃ n : Nat, ds = [d, .int n] ∧ tyN d = some t ∧ Q (.bl (idxB d n))
theorem mono_index : CMono TIndex := fun ds Q Q' h ⟨d, t, n, e, a, q⟩ => ⟨d, t, n, e, a, h _ q⟩
theorem mono_level : CMono TIsInt := mono_isint
theorem d_index {f fL : Addr} {fd fdL : FuncData} (F : Fun K "is_index" "is_index" sIsIndex f fd) (T : Txt mg) (DL0 : DefAt K mg "is_level" sIsLevel ["value"] fL fdL) : FnOk P w K mg base CX0 2 f fd ["value", "count"] (spP TIndex) := by
  have GLd := d_level (P := P) (w := w) (base := base) DL0.F T
  refine fn_okP F ⟨rfl, rfl, rfl, by decide +kernel, rfl, by decide +kernel, by decide +kernel⟩ (N := ["value", "count"]) (fun ds Q h => ?_) (fun cdv A outer s H E hr => ?_)
  · obtain ⟨d, t, n, e, _⟩ := h
    rw [e]; rfl
  · have nd : (["value", "count"] : List Str).Nodup := by decide +kernel
    refine ⟨_, (ss_one (s_ret (v_and (v_call (FnOk.pure GLd mono_level noMd) mono_level.lift (hr.mono (by decide)) (by rfl) DL0.M DL0.F.kp DL0.B (a_cons (vn 0) a_nil)) (v_one (v_chain op_le o_le op_lt o_lt v_int (vn 0) (vn 1)))))), fun ds Q h => ?_⟩
    obtain ⟨d, t, n, e, ht, q⟩ := h
    subst e
    refine ⟨d, rfl, d, t, rfl, ht, _, rfl, ?_⟩
    cases d with
    | int i =>
      rw [show isIntT (.int i) = true from rfl, if_pos rfl]
      refine ⟨_, rfl, 0, i, rfl, rfl, _, rfl, ?_⟩
      have q' : Q (.bl (decide (0 ≤ i) && decide (i < (n : Int)))) := q
      cases hd : decide (0 ≤ i) with
      | true => rw [hd, Bool.true_and] at q'; rw [if_pos rfl]; exact ⟨_, rfl, i, n, rfl, rfl, q'⟩
      | false => rw [hd, Bool.false_and] at q'; rw [if_neg (by decide)]; exact q'
    | _ => exact iteF q
end
end Rk

set_option Elab.async false
set_option linter.all false
set_option maxRecDepth 100000
set_option maxHeartbeats 1000000
namespace Rk
open PySem L2 DL
section
variable {P : Program} {w : World} {K : PySem.W.Frag} {mg : Str → Option Value} {base : Heap}
/-- a comprehension, item by item -/
theorem lc_pure {l : List D} {g : D → D} {n : Nat} {env : Sls} {vs : List Nat} {f : D → List (Nat × D) → Prop} {Te : TD} {Q : DK} (hl : l.length ≤ sizeLine) (st : ∀ x, x ∈ l → ∀ Q' : DK, Q' (g x) n → ∃ asg, f x asg ∧ (∀ p ∈ asg, p.1 ∈ vs) ∧ Te (setsE (wipeE env vs) asg) n Q') (fin : Q (.lst (l.map g)) n) :
    ∃ I : Nat → List D → Nat → Prop, I 0 [] n ∧ (∀ i d acc n2, l[i]? = some d → acc.length ≤ i → I i acc n2 → ∃ asg, f d asg ∧ (∀ p ∈ asg, p.1 ∈ vs) ∧ qYes (setsE (wipeE env vs) asg) n2 fun b n3 => if b = true then Te (setsE (wipeE env vs) asg) n3 fun y n4 => acc.length < sizeLine ∧ I (i + 1) (acc ++ [y]) n4 else I (i + 1) acc n3) ∧
      ∀ acc n2, acc.length ≤ l.length → I l.length acc n2 → Q (.lst acc) n2 := by
  refine ⟨fun i acc n2 => acc = (l.take i).map g ∧ n2 = n, ⟨by simp, rfl⟩, fun i d acc n2 hi ha ⟨e1, e2⟩ => ?_, fun acc n2 _ ⟨e1, e2⟩ => ?_⟩
  · subst e2
    have lt : i < l.length := (List.getElem?_eq_some_iff.mp hi).1
    obtain ⟨asg, h1, h2, h3⟩ := st d (List.mem_of_getElem? hi) (fun y n4 => acc.length < sizeLine ∧ acc ++ [y] = (l.take (i + 1)).map g ∧ n4 = n2) ⟨by omega, by rw [e1, List.take_add_one, hi, List.map_append]; rfl, rfl⟩
    exact ⟨asg, h1, h2, (by unfold qYes; dsimp only; rw [if_pos rfl]; exact h3)⟩
  · rw [e1, e2, List.take_length]
    exact fin
theorem lc_pureK {l : List D} {g : D → D} {n : Nat} {env : Sls} {vs : List Nat} {f : D → List (Nat × D) → Prop} {Te : TD} {Q : List D → Nat → Prop} (hl : l.length ≤ sizeLine) (st : ∀ x, x ∈ l → ∀ Q' : DK, Q' (g x) n → ∃ asg, f x asg ∧ (∀ p ∈ asg, p.1 ∈ vs) ∧ Te (setsE (wipeE env vs) asg) n Q') (fin : Q (l.map g) n) :
    ∃ I : Nat → List D → Nat → Prop, I 0 [] n ∧ (∀ i d acc n2, l[i]? = some d → acc.length ≤ i → I i acc n2 → ∃ asg, f d asg ∧ (∀ p ∈ asg, p.1 ∈ vs) ∧ qYes (setsE (wipeE env vs) asg) n2 fun b n3 => if b = true then Te (setsE (wipeE env vs) asg) n3 fun y n4 => acc.length < sizeLine ∧ I (i + 1) (acc ++ [y]) n4 else I (i + 1) acc n3) ∧
      ∀ acc n2, acc.length ≤ l.length → I l.length acc n2 → Q acc n2 := by
  refine ⟨fun i acc n2 => acc = (l.take i).map g ∧ n2 = n, ⟨by simp, rfl⟩, fun i d acc n2 hi ha ⟨e1, e2⟩ => ?_, fun acc n2 _ ⟨e1, e2⟩ => ?_⟩
  · subst e2
    have lt : i < l.length := (List.getElem?_eq_some_iff.mp hi).1
    obtain ⟨asg, h1, h2, h3⟩ := st d (List.mem_of_getElem? hi) (fun y n4 => acc.length < sizeLine ∧ acc ++ [y] = (l.take (i + 1)).map g ∧ n4 = n2) ⟨by omega, by rw [e1, List.take_add_one, hi, List.map_append]; rfl, rfl⟩
    exact ⟨asg, h1, h2, (by unfold qYes; dsimp only; rw [if_pos rfl]; exact h3)⟩
  · rw [e1, e2, List.take_length]
    exact fin
/-- .. that draws -/
theorem lc_feed {l : List D} {g : Nat} {A : D → Prop} {n : Nat} {env : Sls} {vs : List Nat} {f : D → List (Nat × D) → Prop} {Te : TD} {Q : DK} (hl : l.length ≤ sizeLine)
    (st : ∀ x n2, x ∈ l → n2 ≤ n + l.length * g → ∀ Q' : DK, (∀ y n4, A y → n4 ≤ n2 + g → Q' y n4) → ∃ asg, f x asg ∧ (∀ p ∈ asg, p.1 ∈ vs) ∧ Te (setsE (wipeE env vs) asg) n2 Q') (fin : ∀ acc n2, acc.length = l.length → (∀ y ∈ acc, A y) → n2 ≤ n + l.length * g → Q (.lst acc) n2) :
    ∃ I : Nat → List D → Nat → Prop, I 0 [] n ∧ (∀ i d acc n2, l[i]? = some d → acc.length ≤ i → I i acc n2 → ∃ asg, f d asg ∧ (∀ p ∈ asg, p.1 ∈ vs) ∧ qYes (setsE (wipeE env vs) asg) n2 fun b n3 => if b = true then Te (setsE (wipeE env vs) asg) n3 fun y n4 => acc.length < sizeLine ∧ I (i + 1) (acc ++ [y]) n4 else I (i + 1) acc n3) ∧
      ∀ acc n2, acc.length ≤ l.length → I l.length acc n2 → Q (.lst acc) n2 := by
  refine ⟨fun i acc n2 => acc.length = i ∧ (∀ y ∈ acc, A y) ∧ n2 ≤ n + i * g, ⟨rfl, fun y h => (by cases h), by omega⟩, fun i d acc n2 hi ha ⟨e1, e2, e3⟩ => ?_, fun acc n2 _ ⟨e1, e2, e3⟩ => fin acc n2 e1 e2 e3⟩
  have lt : i < l.length := (List.getElem?_eq_some_iff.mp hi).1
  have le : i * g + g ≤ l.length * g := by
    rw [← Nat.succ_mul]
    exact Nat.mul_le_mul_right g lt
  obtain ⟨asg, h1, h2, h3⟩ := st d n2 (List.mem_of_getElem? hi) (by omega) (fun y n4 => acc.length < sizeLine ∧ (acc ++ [y]).length = i + 1 ∧ (∀ z ∈ acc ++ [y], A z) ∧ n4 ≤ n + (i + 1) * g) fun y n4 hy hn => ⟨by omega, by rw [List.length_append, e1]; rfl, fun z hz => (List.mem_append.mp hz).elim (e2 z) fun h => by rw [List.mem_singleton.mp h]; exact hy, by rw [Nat.succ_mul]; omega⟩
  exact ⟨asg, h1, h2, (by unfold qYes; dsimp only; rw [if_pos rfl]; exact h3)⟩
theorem lc_filtK {l : List D} {p : D → Bool} {g : D → D} {n : Nat} {env : Sls} {vs : List Nat} {f : D → List (Nat × D) → Prop} {Tt : TDb} {Te : TD} {Q : List D → Nat → Prop} (hl : l.length ≤ sizeLine) (st : ∀ x, x ∈ l → ∃ asg, f x asg ∧ (∀ p ∈ asg, p.1 ∈ vs) ∧ (∀ Y : Bool → Nat → Prop, Y (p x) n → Tt (setsE (wipeE env vs) asg) n Y) ∧ ∀ Q' : DK, p x = true → Q' (g x) n → Te (setsE (wipeE env vs) asg) n Q') (fin : Q ((l.filter p).map g) n) :
    ∃ I : Nat → List D → Nat → Prop, I 0 [] n ∧ (∀ i d acc n2, l[i]? = some d → acc.length ≤ i → I i acc n2 → ∃ asg, f d asg ∧ (∀ p ∈ asg, p.1 ∈ vs) ∧ Tt (setsE (wipeE env vs) asg) n2 fun b n3 => if b = true then Te (setsE (wipeE env vs) asg) n3 fun y n4 => acc.length < sizeLine ∧ I (i + 1) (acc ++ [y]) n4 else I (i + 1) acc n3) ∧
      ∀ acc n2, acc.length ≤ l.length → I l.length acc n2 → Q acc n2 := by
  refine ⟨fun i acc n2 => acc = ((l.take i).filter p).map g ∧ n2 = n, ⟨by simp, rfl⟩, fun i d acc n2 hi ha ⟨e1, e2⟩ => ?_, fun acc n2 _ ⟨e1, e2⟩ => ?_⟩
  · subst e2
    have lt : i < l.length := (List.getElem?_eq_some_iff.mp hi).1
    obtain ⟨asg, h1, h2, h3, h4⟩ := st d (List.mem_of_getElem? hi)
    refine ⟨asg, h1, h2, h3 _ ?_⟩
    have ht : l.take (i + 1) = l.take i ++ [d] := by rw [List.take_add_one, hi]; rfl
    cases hp : p d with
    | true => exact iteT (h4 _ hp ⟨by omega, by rw [e1, ht, List.filter_append, List.map_append, List.filter_cons_of_pos hp]; rfl, rfl⟩)
    | false => exact iteF ⟨by rw [e1, ht, List.filter_append, List.map_append, List.filter_cons_of_neg (by rw [hp]; exact Bool.false_ne_true)]; simp, rfl⟩
  · rw [e1, e2, List.take_length]
    exact fin
/-! ### copied; NoColumn -/
theorem scCopied : FnScope ["value", "part", "key"] ["value"] (defScope sCopied) := ⟨rfl, rfl, rfl, by decide +kernel, rfl, by decide +kernel, by decide +kernel⟩
theorem d_copied0 {f : Addr} {fd : FuncData} (DCP : DefAt K mg "copied" sCopied ["value"] f fd) (T : Txt mg) : FnOk P w K mg base CX0 1 f fd ["value"] (spP (TCopied 0)) := by
  refine fn_okP DCP.F scCopied (fun ds Q h => ?_) (fun cdv A outer s H E hr => ?_)
  · obtain ⟨d, e, _⟩ := h
    rw [e]; rfl
  · have nd := scCopied.nd
    refine ⟨_, (ss_cons (s_if (b_val (v_callB call_isi (k_isi (KK := K)) (by rfl) T.isinstance (by decide +kernel) (a_cons (vn 0) (a_cons (v_bltn (v := .ty "list") (d := .ty "list") (by rfl) T.list (by decide +kernel) rfl (fun _ _ => .ty _)) a_nil))))
      (ss_one s_never)
      ss_nil)
    (ss_cons (s_if (b_val (v_callB call_isi (k_isi (KK := K)) (by rfl) T.isinstance (by decide +kernel) (a_cons (vn 0) (a_cons (v_bltn (v := .ty "tuple") (d := .ty "tuple") (by rfl) T.tuple (by decide +kernel) rfl (fun _ _ => .ty _)) a_nil))))
      (ss_one s_never)
      ss_nil)
    (ss_cons (s_if (b_val (v_callB call_isi (k_isi (KK := K)) (by rfl) T.isinstance (by decide +kernel) (a_cons (vn 0) (a_cons (v_bltn (v := .ty "dict") (d := .ty "dict") (by rfl) T.dict (by decide +kernel) rfl (fun _ _ => .ty _)) a_nil))))
      (ss_one s_never)
      ss_nil)
    (ss_one (s_ret (vn 0)))))), fun ds Q h => ?_⟩
    obtain ⟨d, e, c, q⟩ := h
    subst e
    cases c with
    | leaf hf =>
      obtain ⟨t, ht, k1, k2, k3⟩ := flat_ty hf
      exact ⟨_, rfl, _, _, _, _, rfl, ht, k1, _, rfl, iteF ⟨_, rfl, _, _, _, _, rfl, ht, k2, _, rfl, iteF ⟨_, rfl, _, _, _, _, rfl, ht, k3, _, rfl, iteF ⟨_, rfl, q⟩⟩⟩⟩
theorem d_copiedS {f : Addr} {fd : FuncData} (k : Nat) (DCP : DefAt K mg "copied" sCopied ["value"] f fd) (T : Txt mg) (GCPd : FnOk P w K mg base CX0 (k + 1) f fd ["value"] (spP (TCopied k))) : FnOk P w K mg base CX0 (k + 2) f fd ["value"] (spP (TCopied (k + 1))) := by
  refine fn_okP DCP.F scCopied (fun ds Q h => ?_) (fun cdv A outer s H E hr => ?_)
  · obtain ⟨d, e, _⟩ := h
    rw [e]; rfl
  · have nd := scCopied.nd
    have hu := hu_of hr
    refine ⟨_, (ss_cons (s_if (b_val (v_callB call_isi (k_isi (KK := K)) (by rfl) T.isinstance (by decide +kernel) (a_cons (vn 0) (a_cons (v_bltn (v := .ty "list") (d := .ty "list") (by rfl) T.list (by decide +kernel) rfl (fun _ _ => .ty _)) a_nil))))
      (ss_one (s_ret (v_lc (own := [("part", 1)]) (g := gName 1) (by rfl) nd (i_list (vn 0)) (blkOk_by (own := [("part", 1)]) (N := ["value", "part", "key"]) (sc := defScope sCopied) (by decide +kernel)) (fun _ _ _ _ _ => (t_name (i := 1) nd rfl (Or.inl rfl))) (fun _ _ _ _ _ => q_nil) (fun _ _ _ _ _ => (v_call (FnOk.pure GCPd mono_copied noMd) mono_copied.lift hr (by rfl) DCP.M DCP.F.kp DCP.B (a_cons (vn 1) a_nil))))))
      ss_nil)
    (ss_cons (s_if (b_val (v_callB call_isi (k_isi (KK := K)) (by rfl) T.isinstance (by decide +kernel) (a_cons (vn 0) (a_cons (v_bltn (v := .ty "tuple") (d := .ty "tuple") (by rfl) T.tuple (by decide +kernel) rfl (fun _ _ => .ty _)) a_nil))))
      (ss_one (s_ret (v_callTy call_tuple_of (k_tuple (KK := K)) (by rfl) T.tuple (by decide +kernel) (a_cons (v_lc (own := [("part", 1)]) (g := gName 1) (by rfl) nd (i_tup (vn 0)) (blkOk_by (own := [("part", 1)]) (N := ["value", "part", "key"]) (sc := defScope sCopied) (by decide +kernel)) (fun _ _ _ _ _ => (t_name (i := 1) nd rfl (Or.inl rfl))) (fun _ _ _ _ _ => q_nil) (fun _ _ _ _ _ => (v_call (FnOk.pure GCPd mono_copied noMd) mono_copied.lift hr (by rfl) DCP.M DCP.F.kp DCP.B (a_cons (vn 1) a_nil)))) a_nil))))
      ss_nil)
    (ss_cons (s_if (b_val (v_callB call_isi (k_isi (KK := K)) (by rfl) T.isinstance (by decide +kernel) (a_cons (vn 0) (a_cons (v_bltn (v := .ty "dict") (d := .ty "dict") (by rfl) T.dict (by decide +kernel) rfl (fun _ _ => .ty _)) a_nil))))
      (ss_one (s_ret (v_cpyD (i := 0) (j := 2) (k := k) (by decide) (pe_lock (pe_dc (own := [("key", 2)]) rfl nd (pi_keys (pv 0)) (blkOk_by (own := [("key", 2)]) (N := ["value", "part", "key"]) (sc := defScope sCopied) (by decide +kernel)) (fun _ _ _ _ _ => pg_name (i := 2) nd rfl (Or.inl rfl)) (fun _ _ _ _ _ => pts_nil) (fun _ _ _ _ _ => pv 2) (fun _ _ _ _ _ => pe_call GCPd hr (by rfl) DCP.M DCP.F.kp DCP.B .nil pass0 (pa_cons (pe_dget hu (pv 0) (pv 2) (fun _ _ => rfl)) pa_nil)))))))
      ss_nil)
    (ss_one (s_ret (vn 0)))))), fun ds Q h => ?_⟩
    obtain ⟨d, e, c, q⟩ := h
    subst e
    have tk : ∀ l : List D, (∀ x ∈ l, Cpy k x) → ∀ (n : Nat) (env : Sls), ∀ x, x ∈ l → ∀ Q' : DK, Q' x n → ∃ asg, fName 1 x asg ∧ (∀ p ∈ asg, p.1 ∈ [1]) ∧ tCallM (lift (TCopied k)) (tsCons (tName 1) tsNil) (setsE (wipeE (startE ["value", "part", "key"] [d]) [1]) asg) n Q' := fun l hl n env x hx Q' h => by
      refine ⟨_, rfl, (by intro p hp; rw [List.mem_singleton.mp hp]; exact List.mem_singleton.mpr rfl), ?_⟩
      exact ⟨_, rfl, x, rfl, hl x hx, h⟩
    cases c with
    | leaf hf =>
      obtain ⟨t, ht, k1, k2, k3⟩ := flat_ty hf
      exact ⟨_, rfl, _, _, _, _, rfl, ht, k1, _, rfl, iteF ⟨_, rfl, _, _, _, _, rfl, ht, k2, _, rfl, iteF ⟨_, rfl, _, _, _, _, rfl, ht, k3, _, rfl, iteF ⟨_, rfl, q⟩⟩⟩⟩
    | lst hl hc =>
      refine ⟨_, rfl, _, _, _, _, rfl, rfl, (by decide +kernel : kitB "list" "list" = some true), _, rfl, iteT ⟨_, rfl, _, rfl, lc_pure (g := id) (Nat.le_trans hl (by decide)) (tk _ hc 0 []) (by rw [List.map_id]; exact q)⟩⟩
    | tup hl hc =>
      refine ⟨_, rfl, _, _, _, _, rfl, rfl, (by decide +kernel : kitB "tuple" "list" = some false), _, rfl, iteF ⟨_, rfl, _, _, _, _, rfl, rfl, (by decide +kernel : kitB "tuple" "tuple" = some true), _, rfl, iteT ⟨_, rfl, _, rfl, lc_pure (g := id) (Q := fun d _ => ∃ l, ([d] = [.lst l] ∨ [d] = [.tup l]) ∧ Q (.tup l)) (Nat.le_trans hl (by decide)) (tk _ hc 0 []) ?_⟩⟩⟩
      rw [List.map_id]
      exact ⟨_, .inl rfl, q⟩
    | dic hl hn hc =>
      refine ⟨_, rfl, _, _, _, _, rfl, rfl, (by decide +kernel : kitB "dict" "list" = some false), _, rfl, iteF ⟨_, rfl, _, _, _, _, rfl, rfl, (by decide +kernel : kitB "dict" "tuple" = some false), _, rfl, iteF ⟨_, rfl, _, _, _, _, rfl, rfl, (by decide +kernel : kitB "dict" "dict" = some true), _, rfl, iteT ⟨_, rfl, (by show 2 < 3; decide), hl, hn, hc, q⟩⟩⟩⟩
theorem d_copied {f : Addr} {fd : FuncData} (DCP : DefAt K mg "copied" sCopied ["value"] f fd) (T : Txt mg) : ∀ k : Nat, FnOk P w K mg base CX0 (k + 1) f fd ["value"] (spP (TCopied k))
  | 0 => d_copied0 DCP T
  | k + 1 => d_copiedS k DCP T (d_copied DCP T k)
end
end Rk

set_option Elab.async false
set_option linter.all false
set_option maxRecDepth 100000
set_option maxHeartbeats 1000000
namespace Rk
open PySem L2 DL
section
variable {P : Program} {w : World} {K : PySem.W.Frag} {mg : Str → Option Value} {base : Heap}
/-! ### own errors; Section.part -/
abbrev mroIndexError : List Value := [.type "IndexError", .type "LookupError", .type "Exception", .type "BaseException", .type "object"]
abbrev mroValueError : List Value := [.type "ValueError", .type "Exception", .type "BaseException", .type "object"]
structure ErrF (K : PySem.W.Frag) (mg : Str → Option Value) (x field qual : Str) (B nn ii : String) (bm : List Value) (st : Stmt) where
  C : Addr
  ob : OexB K C B nn ii bm
  mgC : mg x = some (.ref C)
  no : PySem.W.findIn K (.ref C) field = some none
  fI : Addr
  fdI : FuncData
  FI : Fun K "__init__" qual st fI fdI
  bI : Binds K fdI ["self", field] []
  iC : PySem.W.findIn K (.ref C) "__init__" = some (some (.ref fI))
  tI : PySem.W.typeIn K (.ref fI) = some (.type "function")
structure ErrX (K : PySem.W.Frag) (C : Addr) : Prop where
  xf : XfC K C
  te : PySem.W.exmOne K (.ref C) (.ref C) = some true
def TErr (f : Str) (k : Nat) : List D → (List (Str × D) → Prop) → Prop := fun ds Q => ∃ d, ds = [d] ∧ Cpy k d ∧ Q [(f, d)]
theorem mono_err {f : Str} {k : Nat} : ∀ ds Q Q', (∀ fs, Q fs → Q' fs) → TErr f k ds Q → TErr f k ds Q' := fun ds Q Q' h ⟨d, e, c, q⟩ => ⟨d, e, c, h _ q⟩
theorem err_q {C a dx : Addr} {H H1 : Hp} {v : V} {d : D} {f : Str} {O : Addr → Prop} {Q : VK} (sm : Same H H1) (nx : H1 dx = none) (ne : dx ≠ a) (rv : R (fun b => O b ∨ b = a) H1 v d)
    (q : ∀ H' dx vfs, (∀ b o, b ≠ a → H b = some o → H' b = some o) → H dx = none → dx ≠ a → H' a = some (exo a C (some dx)) → H' dx = some (exd dx vfs) → Rf (fun b => O b ∨ b = a ∨ b = dx) H' vfs [(f, d)] → Q .non H') :
    Q .non (upd (upd H1 dx (exd dx [(f, v)])) a (exo a C (some dx))) := by
  have nH : H dx = none := by
    cases e : H dx with
    | none => rfl
    | some o => rw [sm _ _ e] at nx; cases nx
  refine q _ dx [(f, v)] (fun b o nb e => ?_) nH ne upd_same (by rw [upd_ne ne, upd_same]) (.cons (rv.keep fun b o n e => ?_) .nil)
  · rw [upd_ne nb, upd_ne (ne_of_none e nH)]
    exact sm b o e
  · have n1 : b ≠ a := fun z => n (.inr z)
    have n2 : b ≠ dx := ne_of_none e nx
    exact ⟨by rw [upd_ne n1, upd_ne n2]; exact e, fun z => z.elim (fun z => n (.inl z)) fun z => z.elim n1 n2⟩
abbrev sInvalidLevelInit : Stmt := (inClass (top 4) 0)
theorem scInvalidLevelInit : FnScope ["self", "value"] ["self", "value"] (defScope sInvalidLevelInit) := ⟨rfl, rfl, rfl, by decide +kernel, rfl, by decide +kernel, by decide +kernel⟩
theorem d_InvalidLevel {fC : Addr} {fdC : FuncData} (M : ErrF K mg "InvalidLevel" "value" "InvalidLevel.__init__" "ValueError" "ValueError.__new__" "ValueError.__init__" mroValueError sInvalidLevelInit) (DCP : DefAt K mg "copied" sCopied ["value"] fC fdC) (T : Txt mg) (k : Nat) : FnOk P w K mg base CX0 (k + 2) M.fI M.fdI ["self", "value"] (spE M.C (TErr "value" k)) := by
  have GCP := d_copied (P := P) (w := w) (base := base) DCP T k
  refine M.FI.ok scInvalidLevelInit (fun vs H Q E h => ?_) (fun cdv A outer s H vs Q E hr h => ?_)
  · obtain ⟨a, ws, ds, O, e, _, _, _, r, d, e2, _⟩ := h
    subst e; subst e2
    cases r with
    | cons r1 r => cases r; rfl
  · obtain ⟨a, ws, ds, O, e, ha, na, old, r, d, e2, c, q⟩ := h
    subst e; subst e2
    cases r with
    | cons r1 r =>
      cases r
      have nd := scInvalidLevelInit.nd
      refine ⟨_, (pss_one (ps_ostB (B := "ValueError") (n := "ValueError.__new__") (i := "ValueError.__init__") (bm := mroValueError) (pv 0) (pe_call GCP hr (by rfl) DCP.M DCP.F.kp DCP.B .nil pass0 (pa_cons (pv 1) pa_nil)) rfl)), ?_⟩
      refine ⟨_, rfl, [d], (fun b => O b ∨ b = a), .cons r1 .nil, fun b hb => ?_, d, rfl, c, fun v H1 sm rv => ⟨_, rfl, a, M.C, rfl, M.ob, M.no, sm _ _ ha, fun dx nx ne => err_q sm nx ne rv q⟩⟩
      rcases hb with hb | hb
      · exact old b hb
      · rw [hb, ha]; exact fun z => nomatch z
abbrev sInvalidNameInit : Stmt := (inClass (top 3) 0)
theorem scInvalidNameInit : FnScope ["self", "value"] ["self", "value"] (defScope sInvalidNameInit) := ⟨rfl, rfl, rfl, by decide +kernel, rfl, by decide +kernel, by decide +kernel⟩
theorem d_InvalidName {fC : Addr} {fdC : FuncData} (M : ErrF K mg "InvalidName" "value" "InvalidName.__init__" "ValueError" "ValueError.__new__" "ValueError.__init__" mroValueError sInvalidNameInit) (DCP : DefAt K mg "copied" sCopied ["value"] fC fdC) (T : Txt mg) (k : Nat) : FnOk P w K mg base CX0 (k + 2) M.fI M.fdI ["self", "value"] (spE M.C (TErr "value" k)) := by
  have GCP := d_copied (P := P) (w := w) (base := base) DCP T k
  refine M.FI.ok scInvalidNameInit (fun vs H Q E h => ?_) (fun cdv A outer s H vs Q E hr h => ?_)
  · obtain ⟨a, ws, ds, O, e, _, _, _, r, d, e2, _⟩ := h
    subst e; subst e2
    cases r with
    | cons r1 r => cases r; rfl
  · obtain ⟨a, ws, ds, O, e, ha, na, old, r, d, e2, c, q⟩ := h
    subst e; subst e2
    cases r with
    | cons r1 r =>
      cases r
      have nd := scInvalidNameInit.nd
      refine ⟨_, (pss_one (ps_ostB (B := "ValueError") (n := "ValueError.__new__") (i := "ValueError.__init__") (bm := mroValueError) (pv 0) (pe_call GCP hr (by rfl) DCP.M DCP.F.kp DCP.B .nil pass0 (pa_cons (pv 1) pa_nil)) rfl)), ?_⟩
      refine ⟨_, rfl, [d], (fun b => O b ∨ b = a), .cons r1 .nil, fun b hb => ?_, d, rfl, c, fun v H1 sm rv => ⟨_, rfl, a, M.C, rfl, M.ob, M.no, sm _ _ ha, fun dx nx ne => err_q sm nx ne rv q⟩⟩
      rcases hb with hb | hb
      · exact old b hb
      · rw [hb, ha]; exact fun z => nomatch z
abbrev sNoColumnInit : Stmt := (inClass (top 11) 0)
theorem scNoColumnInit : FnScope ["self", "at"] ["self", "at"] (defScope sNoColumnInit) := ⟨rfl, rfl, rfl, by decide +kernel, rfl, by decide +kernel, by decide +kernel⟩
theorem d_NoColumn {fC : Addr} {fdC : FuncData} (M : ErrF K mg "NoColumn" "at" "NoColumn.__init__" "IndexError" "IndexError.__new__" "IndexError.__init__" mroIndexError sNoColumnInit) (DCP : DefAt K mg "copied" sCopied ["value"] fC fdC) (T : Txt mg) (k : Nat) : FnOk P w K mg base CX0 (k + 2) M.fI M.fdI ["self", "at"] (spE M.C (TErr "at" k)) := by
  have GCP := d_copied (P := P) (w := w) (base := base) DCP T k
  refine M.FI.ok scNoColumnInit (fun vs H Q E h => ?_) (fun cdv A outer s H vs Q E hr h => ?_)
  · obtain ⟨a, ws, ds, O, e, _, _, _, r, d, e2, _⟩ := h
    subst e; subst e2
    cases r with
    | cons r1 r => cases r; rfl
  · obtain ⟨a, ws, ds, O, e, ha, na, old, r, d, e2, c, q⟩ := h
    subst e; subst e2
    cases r with
    | cons r1 r =>
      cases r
      have nd := scNoColumnInit.nd
      refine ⟨_, (pss_one (ps_ostB (B := "IndexError") (n := "IndexError.__new__") (i := "IndexError.__init__") (bm := mroIndexError) (pv 0) (pe_call GCP hr (by rfl) DCP.M DCP.F.kp DCP.B .nil pass0 (pa_cons (pv 1) pa_nil)) rfl)), ?_⟩
      refine ⟨_, rfl, [d], (fun b => O b ∨ b = a), .cons r1 .nil, fun b hb => ?_, d, rfl, c, fun v H1 sm rv => ⟨_, rfl, a, M.C, rfl, M.ob, M.no, sm _ _ ha, fun dx nx ne => err_q sm nx ne rv q⟩⟩
      rcases hb with hb | hb
      · exact old b hb
      · rw [hb, ha]; exact fun z => nomatch z
abbrev sWrongWidthInit : Stmt := (inClass (top 9) 0)
theorem scWrongWidthInit : FnScope ["self", "width"] ["self", "width"] (defScope sWrongWidthInit) := ⟨rfl, rfl, rfl, by decide +kernel, rfl, by decide +kernel, by decide +kernel⟩
theorem d_WrongWidth {fC : Addr} {fdC : FuncData} (M : ErrF K mg "WrongWidth" "width" "WrongWidth.__init__" "ValueError" "ValueError.__new__" "ValueError.__init__" mroValueError sWrongWidthInit) (DCP : DefAt K mg "copied" sCopied ["value"] fC fdC) (T : Txt mg) (k : Nat) : FnOk P w K mg base CX0 (k + 2) M.fI M.fdI ["self", "width"] (spE M.C (TErr "width" k)) := by
  have GCP := d_copied (P := P) (w := w) (base := base) DCP T k
  refine M.FI.ok scWrongWidthInit (fun vs H Q E h => ?_) (fun cdv A outer s H vs Q E hr h => ?_)
  · obtain ⟨a, ws, ds, O, e, _, _, _, r, d, e2, _⟩ := h
    subst e; subst e2
    cases r with
    | cons r1 r => cases r; rfl
  · obtain ⟨a, ws, ds, O, e, ha, na, old, r, d, e2, c, q⟩ := h
    subst e; subst e2
    cases r with
    | cons r1 r =>
      cases r
      have nd := scWrongWidthInit.nd
      refine ⟨_, (pss_one (ps_ostB (B := "ValueError") (n := "ValueError.__new__") (i := "ValueError.__init__") (bm := mroValueError) (pv 0) (pe_call GCP hr (by rfl) DCP.M DCP.F.kp DCP.B .nil pass0 (pa_cons (pv 1) pa_nil)) rfl)), ?_⟩
      refine ⟨_, rfl, [d], (fun b => O b ∨ b = a), .cons r1 .nil, fun b hb => ?_, d, rfl, c, fun v H1 sm rv => ⟨_, rfl, a, M.C, rfl, M.ob, M.no, sm _ _ ha, fun dx nx ne => err_q sm nx ne rv q⟩⟩
      rcases hb with hb | hb
      · exact old b hb
      · rw [hb, ha]; exact fun z => nomatch z
theorem idx_int {d : D} {m : Nat} (h : idxB d m = true) : ∃ i : Nat, d = .int i ∧ i < m := by
  cases d with
  | int i =>
    obtain ⟨h1, h2⟩ := Bool.and_eq_true_iff.mp (show (decide (0 ≤ i) && decide (i < (m : Int))) = true from h)
    have := of_decide_eq_true h1
    have := of_decide_eq_true h2
    exact ⟨i.toNat, by rw [show ((i.toNat : Nat) : Int) = i by omega], by omega⟩
  | _ => cases h
end
end Rk

set_option Elab.async false
set_option linter.all false
set_option maxRecDepth 100000
set_option maxHeartbeats 1000000
namespace Rk
open PySem L2 DL
section
variable {P : Program} {w : World} {K : PySem.W.Frag} {mg : Str → Option Value} {base : Heap}
/-! ### any value: copied, told -/
theorem leafs_cpy : ∀ x ∈ leafs ++ leafs2, cpyB 2 (dP x) = true := by decide +kernel
theorem leafs_tl : ∀ x ∈ leafs ++ leafs2, tlB 2 40 x = true := by decide +kernel
mutual
def pdB : PyData → Bool
  | .none => true
  | .bool _ => true
  | .int _ => true
  | .str _ => true
  | .list l => pdBs l
  | .tuple l => pdBs l
  | .dict l => pdBk l
def pdBs : List PyData → Bool
  | [] => true
  | x :: r => pdB x && pdBs r
def pdBk : List (PyData × PyData) → Bool
  | [] => true
  | (.str _, x) :: r => pdB x && pdBk r
  | (.int _, x) :: r => pdB x && pdBk r
  | _ => false
end
mutual
theorem pd_dP : ∀ x : PyData, pdB x = true → pd (dP x) = x
  | .none, _ => by rw [dP, pd]
  | .bool _, _ => by rw [dP, pd]
  | .int _, _ => by rw [dP, pd]
  | .str _, _ => by rw [dP, pd]
  | .list l, h => by rw [pdB] at h; rw [dP, pd, pds_dP l h]
  | .tuple l, h => by rw [pdB] at h; rw [dP, pd, pds_dP l h]
  | .dict l, h => by rw [pdB] at h; rw [dP, pd, pdk_dP l h]
theorem pds_dP : ∀ x : List PyData, pdBs x = true → pds (dPs x) = x
  | [], _ => by rw [dPs, pds]
  | x :: r, h => by
    rw [pdBs, Bool.and_eq_true] at h
    rw [dPs, pds, pd_dP x h.1, pds_dP r h.2]
theorem pdk_dP : ∀ x : List (PyData × PyData), pdBk x = true → pdk (dPk x) = x
  | [], _ => by rw [dPk, pdk]
  | (k, x) :: r, h => by
    cases k with
    | str s =>
      rw [pdBk, Bool.and_eq_true] at h
      rw [dPk, keyP, pdk, pd_dP x h.1, pdk_dP r h.2]
    | int i =>
      rw [pdBk, Bool.and_eq_true] at h
      rw [dPk, keyP, pdk, pd_dP x h.1, pdk_dP r h.2]
    | _ => simp [pdBk] at h
end
theorem pdBs_of : ∀ {l : List PyData}, (∀ x ∈ l, pdB x = true) → pdBs l = true
  | [], _ => rfl
  | x :: r, h => by rw [pdBs, h x (List.mem_cons_self ..), pdBs_of fun y hy => h y (List.mem_cons_of_mem _ hy)]; rfl
theorem leafs_pd : ∀ x ∈ leafs ++ leafs2, pdB x = true := by decide +kernel
def bigL : Nat → Nat
  | 0 => 40
  | k + 1 => 10 * bigL k + 100
theorem dPs_len : ∀ l : List PyData, (dPs l).length = l.length
  | [] => by rw [dPs]; rfl
  | x :: r => by rw [dPs, List.length_cons, List.length_cons, dPs_len r]
theorem dPs_mem {y : D} : ∀ {l : List PyData}, y ∈ dPs l → ∃ x ∈ l, y = dP x
  | [], h => by rw [dPs] at h; cases h
  | x :: r, h => by
    rw [dPs] at h
    rcases List.mem_cons.mp h with h | h
    · exact ⟨x, List.mem_cons_self .., h⟩
    · obtain ⟨z, hz, e⟩ := dPs_mem h
      exact ⟨z, List.mem_cons_of_mem _ hz, e⟩
structure AnyOk (k : Nat) (x : PyData) : Prop where
  c : Cpy (2 * k + 2) (dP x)
  t : Tl (2 * k + 2) (bigL k) x
  p : pdB x = true
theorem big_up (k : Nat) : bigL k ≤ bigL (k + 1) := by show bigL k ≤ 10 * bigL k + 100; omega
theorem big_40 : ∀ j, 40 ≤ bigL j
  | 0 => Nat.le_refl _
  | j + 1 => Nat.le_trans (big_40 j) (big_up j)
theorem any_ok : ∀ {k : Nat} {x : PyData}, AnyD k x → AnyOk k x
  | 0, x, .leaf h => ⟨cpy_of (leafs_cpy x h), tl_of (leafs_tl x h), leafs_pd x h⟩
  | k + 1, x, .leaf h => ⟨(cpy_of (leafs_cpy x h)).up (by omega), (tl_of (leafs_tl x h)).up (by omega) (big_40 _), leafs_pd x h⟩
  | k + 1, _, .lst (ds := ds) hl h => by
    have ih := fun x hx => any_ok (h x hx)
    refine ⟨?_, (Tl.list (fun x hx => (ih x hx).t) hl).up (by omega) (by show _ ≤ 10 * bigL k + 100; omega), by rw [pdB]; exact pdBs_of fun x hx => (ih x hx).p⟩
    rw [dP]
    exact .lst (by rw [dPs_len]; omega) fun y hy => by obtain ⟨x, hx, e⟩ := dPs_mem hy; rw [e]; exact (ih x hx).c.up (by omega)
  | k + 1, _, .tup (ds := ds) hl h => by
    have ih := fun x hx => any_ok (h x hx)
    refine ⟨?_, (Tl.tuple (fun x hx => (ih x hx).t) hl).up (by omega) (by show _ ≤ 10 * bigL k + 100; omega), by rw [pdB]; exact pdBs_of fun x hx => (ih x hx).p⟩
    rw [dP]
    exact .tup (by rw [dPs_len]; omega) fun y hy => by obtain ⟨x, hx, e⟩ := dPs_mem hy; rw [e]; exact (ih x hx).c.up (by omega)
  | k + 1, _, .dic (ds := ds) hl h => by
    have ih := fun x hx => any_ok (h x hx)
    have b40 := big_40 k
    have ta : Tl (2 * k + 2 + 1) (3 * (bigL k + 2) + 3) (.str "a") := (tl_of (show tlB 0 5 (.str "a") = true by decide +kernel)).up (by omega) (by omega)
    refine ⟨?_, (Tl.dict ta (Tl.tuple (fun x hx => (ih x hx).t) hl)).up (by omega) (by show _ ≤ 10 * bigL k + 100; omega), ?_⟩
    · rw [dP, dPk, dPk, dP]
      refine .dic (k := 2 * k + 3) (by simp) (by simp) fun p hp => ?_
      rw [List.mem_singleton.mp hp]
      exact .tup (by rw [dPs_len]; omega) fun y hy => by obtain ⟨x, hx, e⟩ := dPs_mem hy; rw [e]; exact (ih x hx).c
    · rw [pdB, pdBk, pdBk, pdB, pdBs_of fun x hx => (ih x hx).p]
      rfl
theorem any_told {k : Nat} {x : PyData} (h : AnyD k x) (hk : k ≤ 2) : Told (dP x) ∧ pd (dP x) = x := by
  have o := any_ok h
  have e := pd_dP x o.p
  refine ⟨⟨o.c.ok, by rw [e]; exact o.t.sh, by rw [e]; exact Nat.le_trans o.t.dp (by omega), ?_⟩, e⟩
  rw [e]
  have : bigL k ≤ bigL 2 := by
    match k, hk with
    | 0, _ => decide
    | 1, _ => decide
    | 2, _ => exact Nat.le_refl _
  exact Nat.le_trans o.t.ln (Nat.le_trans this (by decide))
theorem ints_tl : ∀ j ∈ List.range 40, tlB 0 5 (.int ((j : Int) - 3)) = true := by decide +kernel
theorem told_int {i : Int} (h1 : -3 ≤ i) (h2 : i ≤ 30) : Told (.int i) := by
  have t := tl_of (ints_tl (i + 3).toNat (List.mem_range.mpr (by omega)))
  rw [show (((i + 3).toNat : Nat) : Int) - 3 = i by omega] at t
  exact ⟨rfl, by rw [pd]; exact t.sh, by rw [pd]; exact Nat.le_trans t.dp (by decide), by rw [pd]; exact Nat.le_trans t.ln (by decide)⟩
/-! ### a law's state -/
theorem as_map {α : Type} {P : α → Prop} {f : α → D} : ∀ {acc : List D}, (∀ y ∈ acc, ∃ c, y = f c ∧ P c) → ∃ cs : List α, acc = cs.map f ∧ ∀ c ∈ cs, P c
  | [], _ => ⟨[], rfl, fun _ h => by cases h⟩
  | y :: acc, h => by
    obtain ⟨c, e, p⟩ := h y (List.mem_cons_self ..)
    obtain ⟨cs, e2, p2⟩ := as_map fun z hz => h z (List.mem_cons_of_mem _ hz)
    refine ⟨c :: cs, by rw [e, e2]; rfl, fun z hz => ?_⟩
    rcases List.mem_cons.mp hz with hz | hz
    · rw [hz]; exact p
    · exact p2 z hz
end
end Rk

set_option Elab.async false
set_option linter.all false
set_option maxRecDepth 100000
set_option maxHeartbeats 1000000
namespace Rk
open PySem L2 DL
section
variable {P : Program} {w : World} {K : PySem.W.Frag} {mg : Str → Option Value} {base : Heap}
/-! ### any data: names, beds -/
mutual
def smB : D → Bool
  | .non => true
  | .bl _ => true
  | .int i => decide (i.natAbs < 10 ^ 30)
  | .str z => decide (z.cps.toList.length ≤ 1000) && z.cps.toList.all fun c => decide (c < 1114112)
  | .lst l => smBs l
  | .tup l => smBs l
  | .dic l => smBk l
  | .ptr _ | .ty _ | .obj _ _ | .exc _ _ _ _ | .exv _ _ | .exn _ => false
def smBs : List D → Bool
  | [] => true
  | d :: r => smB d && smBs r
def smBk : List (Key × D) → Bool
  | [] => true
  | (_, d) :: r => smB d && smBk r
end
mutual
theorem smB_ok : ∀ {d : D}, smB d = true → okD d = true
  | .non, _ => rfl
  | .bl _, _ => rfl
  | .int _, _ => rfl
  | .str _, _ => rfl
  | .lst l, h => by rw [smB] at h; rw [okD]; exact smBs_ok h
  | .tup l, h => by rw [smB] at h; rw [okD]; exact smBs_ok h
  | .dic l, h => by rw [smB] at h; rw [okD]; exact smBk_ok h
  | .ptr _, h => by simp [smB] at h
  | .ty _, h => by simp [smB] at h
  | .obj _ _, h => by simp [smB] at h
  | .exc _ _ _ _, h => by simp [smB] at h
theorem smBs_ok : ∀ {l : List D}, smBs l = true → okDs l = true
  | [], _ => rfl
  | d :: r, h => by
    rw [smBs, Bool.and_eq_true] at h
    rw [okDs, smB_ok h.1, smBs_ok h.2]; rfl
theorem smBk_ok : ∀ {l : List (Key × D)}, smBk l = true → okDk l = true
  | [], _ => rfl
  | (k, d) :: r, h => by
    rw [smBk, Bool.and_eq_true] at h
    rw [okDk, smB_ok h.1, smBk_ok h.2]; rfl
end
theorem smBs_mem : ∀ {l : List D}, smBs l = true → ∀ x ∈ l, smB x = true
  | [], _, _, h => by cases h
  | d :: r, h, x, hx => by
    rw [smBs, Bool.and_eq_true] at h
    rcases List.mem_cons.mp hx with e | hx
    · rw [e]; exact h.1
    · exact smBs_mem h.2 x hx
theorem smBs_of : ∀ {l : List D}, (∀ x ∈ l, smB x = true) → smBs l = true
  | [], _ => rfl
  | d :: r, h => by rw [smBs, h d (List.mem_cons_self ..), smBs_of fun x hx => h x (List.mem_cons_of_mem _ hx)]; rfl
theorem smB_sm {d : D} (h : smB d = true) : Sm (pd d) := by
  cases d with
  | str z =>
    rw [pd]
    rw [smB, Bool.and_eq_true] at h
    exact ⟨of_decide_eq_true h.1, fun c hc => of_decide_eq_true (List.all_eq_true.mp h.2 c hc)⟩
  | _ => simp [pd, Sm]
theorem smB_ty {d : D} (h : smB d = true) : ∃ t, tyN d = some t := by
  cases d with
  | ptr => simp [smB] at h
  | ty => simp [smB] at h
  | obj => simp [smB] at h
  | exc => simp [smB] at h
  | exv => simp [smB] at h
  | exn => simp [smB] at h
  | _ => exact ⟨_, rfl⟩
section
variable {O : Addr → Prop} {H : Hp}
mutual
theorem R.dvk : ∀ {v : V} {x : D}, R O H v x → okD x = true → DV O H v (pd x)
  | _, _, .non, _ => by rw [pd]; exact .non
  | _, _, .bl b, _ => by rw [pd]; exact .bl b
  | _, _, .int i, _ => by rw [pd]; exact .int i
  | _, _, .str x, _ => by rw [pd]; exact .str x
  | _, _, .ptr a, h => by simp [okD] at h
  | _, _, .ty s, h => by simp [okD] at h
  | _, _, .lst n e r, h => by rw [pd]; exact .lst n e (Rs.dvk r (by simpa [okD] using h))
  | _, _, .tup n e r, h => by rw [pd]; exact .tup n e (Rs.dvk r (by simpa [okD] using h))
  | _, _, .dic n e r, h => by rw [pd]; exact .dic n e (Rk.dvk r (by simpa [okD] using h))
  | _, _, .obj n e r, h => by simp [okD] at h
  | _, _, .exc n e r, h => by simp [okD] at h
theorem Rs.dvk : ∀ {v : List V} {x : List D}, Rs O H v x → okDs x = true → DVs O H v (pds x)
  | _, _, .nil, _ => by rw [pds]; exact .nil
  | _, _, .cons a r, h => by
    rw [okDs, Bool.and_eq_true] at h
    rw [pds]
    exact .cons (R.dvk a h.1) (Rs.dvk r h.2)
theorem Rk.dvk : ∀ {v : List (Key × V)} {x : List (Key × D)}, Rk O H v x → okDk x = true → DVk O H v (pdk x)
  | _, _, .nil, _ => by rw [pdk]; exact .nil
  | _, _, .cons (k := k) a r, h => by
    rw [okDk, Bool.and_eq_true] at h
    cases k with
    | inl i => rw [pdk]; exact .cons (k := .inl i) (R.dvk a h.1) (Rk.dvk r h.2)
    | inr s => rw [pdk]; exact .cons (k := .inr s) (R.dvk a h.1) (Rk.dvk r h.2)
end
end
def nameT (d : D) : Bool := nameD (pd d)
def TName : CD := fun ds Q => ∃ d, ds = [d] ∧ smB d = true ∧ Q (.bl (nameT d))
theorem mono_name : CMono TName := fun ds Q Q' h ⟨d, e, a, q⟩ => ⟨d, e, a, h _ q⟩
theorem b_name {k : Nat} {f : Addr} {fd : FuncData} {ps : List Str} (F : FnOk P w K mg base CX0 k f fd ps (spTest nameD)) : FnOk P w K mg base CX0 k f fd ps (spP TName) := F.imp fun vs H Q E ⟨ds, O, r, old, d, e, hs, q⟩ => by
  subst e
  cases r with
  | cons r1 r =>
    cases r
    exact ⟨_, pd d, O, rfl, R.dvk r1 (smB_ok hs), smB_sm hs, fun H' s => q _ H' s (.bl _)⟩
end
end Rk

set_option Elab.async false
set_option linter.all false
set_option maxRecDepth 100000
set_option maxHeartbeats 1000000
namespace Rk
open PySem L2 DL
section
variable {P : Program} {w : World} {K : PySem.W.Frag} {mg : Str → Option Value} {base : Heap}
/-! ### how long, which signs -/
theorem chr_lt (ch : Char) : ch.toNat < 1114112 := by
  have h := ch.valid
  unfold UInt32.isValidChar Nat.isValidChar at h
  show ch.val.toNat < _
  omega
theorem okz_ofString (s : String) : OkZ (Str.ofString s) := fun c hc => by
  rw [Str.ofString_eq_toList] at hc
  simp only [List.mem_map, List.toList_toArray] at hc
  obtain ⟨ch, _, e⟩ := hc
  rw [← e]
  exact chr_lt ch
theorem hex_ok (c w : Nat) : ∀ x ∈ (let d := (Nat.toDigits 16 c).map Char.toNat; List.replicate (w - d.length) 48 ++ d), x < 1114112 := fun x hx => by
  rcases List.mem_append.mp hx with h | h
  · rw [List.eq_of_mem_replicate h]; decide
  · obtain ⟨ch, _, e⟩ := List.mem_map.mp h
    rw [← e]; exact chr_lt ch
theorem hex_lt {q c x : Nat} (hc : c < 1114112) (h : x ∈ Builtin.Str.reprChar q c) : x < 1114112 := by
  unfold Builtin.Str.reprChar at h
  simp only at h
  have two : ∀ {a b : Nat}, a < 1114112 → b < 1114112 → x ∈ [a, b] → x < 1114112 := fun ha hb h => by
    rcases List.mem_cons.mp h with e | h
    · rw [e]; exact ha
    · rw [List.mem_singleton.mp h]; exact hb
  have pre : ∀ {a b w : Nat}, a < 1114112 → b < 1114112 → x ∈ [a, b] ++ (List.replicate (w - ((Nat.toDigits 16 c).map Char.toNat).length) 48 ++ (Nat.toDigits 16 c).map Char.toNat) → x < 1114112 := fun ha hb h => (List.mem_append.mp h).elim (two ha hb) (hex_ok c _ x)
  split at h
  · exact two (by decide) hc h
  split at h
  · exact two (by decide) (by decide) h
  split at h
  · exact two (by decide) (by decide) h
  split at h
  · exact two (by decide) (by decide) h
  split at h
  · rw [List.mem_singleton.mp h]; exact hc
  split at h
  · exact pre (by decide) (by decide) h
  split at h
  · exact pre (by decide) (by decide) h
  · exact pre (by decide) (by decide) h
theorem okz_fold {q : Nat} : ∀ (l : List Nat) (acc : Array Nat), (∀ c ∈ acc.toList, c < 1114112) → (∀ c ∈ l, c < 1114112) → ∀ c ∈ (l.foldl (fun out c => out ++ (Builtin.Str.reprChar q c).toArray) acc).toList, c < 1114112
  | [], _, h, _ => h
  | a :: r, acc, h, g => okz_fold r _ (fun c hc => by
      rw [Array.toList_append] at hc
      exact (List.mem_append.mp hc).elim (h c) fun hc => hex_lt (g a (List.mem_cons_self ..)) hc) fun c hc => g c (List.mem_cons_of_mem _ hc)
theorem quote_lt (x : Str) : reprQuote x < 1114112 := by
  unfold reprQuote
  split <;> decide
theorem okz_repr {x : Str} (h : OkZ x) : OkZ (reprText x) := fun c hc => by
  unfold reprText at hc
  simp only [Array.toList_push, ← Array.foldl_toList] at hc
  rcases List.mem_append.mp hc with hc | hc
  · exact okz_fold x.cps.toList _ (fun c hc => by rw [List.mem_singleton.mp hc]; exact quote_lt x) h c hc
  · rw [List.mem_singleton.mp hc]; exact quote_lt x
theorem len_cps (x : Str) : x.length = x.cps.toList.length := rfl
theorem tl_str {x : Str} {n : Nat} (h : OkZ x) (hn : x.cps.toList.length ≤ n) : Tl 0 (10 * n + 2) (.str x) := by
  refine tl_mk rfl (Nat.le_refl _) ?_
  have e := StrLaws.reprText_len x fun c hc => Nat.lt_trans (h c hc) (by decide)
  refine ⟨?_, okz_repr h⟩
  show (reprText x).length ≤ _
  rw [len_cps x] at e
  omega
theorem log_lt {n k : Nat} (hk : 0 < k) (h : n < 2 ^ k) : n.log2 < k := by
  by_cases e : n = 0
  · rw [e]; simpa using hk
  · exact (Nat.log2_lt e).mpr h
theorem tl_int {i : Int} (h : i.natAbs < 10 ^ 30) : Tl 0 40 (.int i) := by
  refine tl_mk (by
    show decide (i.natAbs.log2 < 1920) = true
    exact decide_eq_true (log_lt (by decide) (Nat.lt_trans h (by decide)))) (Nat.le_refl _) ⟨?_, okz_ofString _⟩
  have e := int_text_length_le10 (k := 30) (by decide) h
  show (Str.ofString (toString i)).length ≤ 40
  rw [show (Str.ofString (toString i)).length = (toString i).length from by rw [Str.ofString_eq_toList]; simp only [Str.length, List.size_toArray, List.length_map, String.length_toList]]
  omega
theorem Tl.tupleN {k B n : Nat} {xs : List PyData} (h : ∀ x ∈ xs, Tl k B x) (hl : xs.length ≤ n) : Tl (k + 1) (n * (B + 2) + 3) (.tuple xs) := by
  refine tl_mk (by rw [PyData.showable]; exact showAll_of fun x hx => (h x hx).sh) (by rw [PyData.depth]; exact Nat.succ_le_succ (depthAll_le fun x hx => (h x hx).dp)) ?_
  rw [PyData.shown, shownAll_map]
  refine ⟨?_, tup_ok fun t ht => by
    obtain ⟨x, hx, e⟩ := List.mem_map.mp ht
    rw [← e]; exact (h x hx).ok⟩
  have h1 := tup_le (xs.map PyData.shown)
  have h2 := piled_le' (ts := xs.map PyData.shown) (B := B) fun t ht => by
    obtain ⟨x, hx, e⟩ := List.mem_map.mp ht
    rw [← e]; exact (h x hx).ln
  rw [List.length_map] at h2
  have h3 : xs.length * (B + 2) ≤ n * (B + 2) := Nat.mul_le_mul_right _ hl
  omega
theorem Tl.listN {k B n : Nat} {xs : List PyData} (h : ∀ x ∈ xs, Tl k B x) (hl : xs.length ≤ n) : Tl (k + 1) (n * (B + 2) + 3) (.list xs) := by
  refine tl_mk (by rw [PyData.showable]; exact showAll_of fun x hx => (h x hx).sh) (by rw [PyData.depth]; exact Nat.succ_le_succ (depthAll_le fun x hx => (h x hx).dp)) ?_
  rw [PyData.shown, shownAll_map]
  refine ⟨?_, list_ok fun t ht => by
    obtain ⟨x, hx, e⟩ := List.mem_map.mp ht
    rw [← e]; exact (h x hx).ok⟩
  have h1 := list_le (xs.map PyData.shown)
  have h2 := piled_le' (ts := xs.map PyData.shown) (B := B) fun t ht => by
    obtain ⟨x, hx, e⟩ := List.mem_map.mp ht
    rw [← e]; exact (h x hx).ln
  rw [List.length_map] at h2
  have h3 : xs.length * (B + 2) ≤ n * (B + 2) := Nat.mul_le_mul_right _ hl
  omega
/-- a part of a bed -/
structure Prt (x : D) : Prop where
  s : smB x = true
  c : Cpy 4 x
  t : Tl 4 600 (pd x)
/-- a bed, or what stands in its place -/
structure Elt (x : D) : Prop where
  s : smB x = true
  c : Cpy 5 x
  t : Tl 5 2500 (pd x)
theorem Prt.elt {x : D} (h : Prt x) : Elt x := ⟨h.s, h.c.up (by decide), h.t.up (by decide) (by decide)⟩
theorem pds_map : ∀ l : List D, pds l = l.map pd
  | [] => by rw [pds]; rfl
  | d :: r => by rw [pds, pds_map r]; rfl
theorem elt_tup {l : List D} (h : ∀ x ∈ l, Prt x) (hl : l.length ≤ 4) : Elt (.tup l) := by
  refine ⟨by rw [smB]; exact smBs_of fun x hx => (h x hx).s, .tup (by omega) fun x hx => (h x hx).c, ?_⟩
  rw [pd, pds_map]
  exact (Tl.tupleN (n := 4) (fun x hx => by
    obtain ⟨y, hy, e⟩ := List.mem_map.mp hx
    rw [← e]; exact (h y hy).t) (by rw [List.length_map]; exact hl)).up (by decide) (by decide)
theorem elt_lst {l : List D} (h : ∀ x ∈ l, Prt x) (hl : l.length ≤ 4) : Elt (.lst l) := by
  refine ⟨by rw [smB]; exact smBs_of fun x hx => (h x hx).s, .lst (by omega) fun x hx => (h x hx).c, ?_⟩
  rw [pd, pds_map]
  exact (Tl.listN (n := 4) (fun x hx => by
    obtain ⟨y, hy, e⟩ := List.mem_map.mp hx
    rw [← e]; exact (h y hy).t) (by rw [List.length_map]; exact hl)).up (by decide) (by decide)
theorem prt_non : Prt .non := ⟨rfl, .leaf rfl, tl_of (by decide +kernel)⟩
theorem prt_bl (b : Bool) : Prt (.bl b) := by cases b <;> exact ⟨rfl, .leaf rfl, tl_of (by decide +kernel)⟩
theorem prt_int {i : Int} (h : i.natAbs < 10 ^ 30) : Prt (.int i) := ⟨decide_eq_true h, .leaf rfl, by rw [pd]; exact (tl_int h).up (by decide) (by decide)⟩
theorem prt_str {z : Str} (h : z.cps.toList.length ≤ 40) (g : OkZ z) : Prt (.str z) := by
  refine ⟨?_, .leaf rfl, by rw [pd]; exact (tl_str g h).up (by decide) (by decide)⟩
  show (decide (z.cps.toList.length ≤ 1000) && z.cps.toList.all fun c => decide (c < 1114112)) = true
  rw [decide_eq_true (by omega), List.all_eq_true.mpr fun c hc => decide_eq_true (g c hc)]; rfl
theorem leafs_sm : ∀ x ∈ leafs ++ leafs2, smB (dP x) = true := by decide +kernel
theorem any_sm : ∀ {k : Nat} {x : PyData}, AnyD k x → smB (dP x) = true
  | _, x, .leaf h => leafs_sm x h
  | k + 1, _, .lst (ds := ds) hl h => by
    rw [dP, smB]
    exact smBs_of fun y hy => by obtain ⟨x, hx, e⟩ := dPs_mem hy; rw [e]; exact any_sm (h x hx)
  | k + 1, _, .tup (ds := ds) hl h => by
    rw [dP, smB]
    exact smBs_of fun y hy => by obtain ⟨x, hx, e⟩ := dPs_mem hy; rw [e]; exact any_sm (h x hx)
  | k + 1, _, .dic (ds := ds) hl h => by
    rw [dP, dPk, dPk, dP, smB, smBk, smBk, smB, Bool.and_true]
    exact smBs_of fun y hy => by obtain ⟨x, hx, e⟩ := dPs_mem hy; rw [e]; exact any_sm (h x hx)
theorem prt_any {x : PyData} (h : AnyD 1 x) : Prt (dP x) := by
  have o := any_ok h
  exact ⟨any_sm h, o.c, by rw [pd_dP x o.p]; exact o.t.up (by decide) (by decide)⟩
theorem word_len {z : Str} (h : wordB z = true) : z.cps.toList.length ≤ 8 ∧ OkZ z := by
  unfold wordB at h
  obtain ⟨h1, h3⟩ := Bool.and_eq_true_iff.mp h
  obtain ⟨h1, h2⟩ := Bool.and_eq_true_iff.mp h1
  refine ⟨of_decide_eq_true h2, fun c hc => ?_⟩
  have := List.all_eq_true.mp h3 c hc
  unfold lowB at this
  simp only [Bool.and_eq_true, decide_eq_true_eq] at this
  omega
/-- a bed as it is drawn -/
theorem prt_name {z : Str} (h : wordB z = true) : Prt (.str z) := prt_str (by have := (word_len h).1; omega) (word_len h).2
end
end Rk

set_option Elab.async false
set_option linter.all false
set_option maxRecDepth 100000
set_option maxHeartbeats 1000000
namespace Rk
open PySem L2 DL
section
variable {P : Program} {w : World} {K : PySem.W.Frag} {mg : Str → Option Value} {base : Heap}
theorem abc_low (c : Nat) : decide (c ∈ (Str.ofString "abcdefghijklmnopqrstuvwxyz").cps.toList) = lowB c := by
  have e : (Str.ofString "abcdefghijklmnopqrstuvwxyz").cps.toList = [97, 98, 99, 100, 101, 102, 103, 104, 105, 106, 107, 108, 109, 110, 111, 112, 113, 114, 115, 116, 117, 118, 119, 120, 121, 122] := by decide +kernel
  rw [e]
  unfold lowB
  rw [← Bool.decide_and]
  refine decide_eq_decide.mpr ?_
  simp only [List.mem_cons, List.not_mem_nil, or_false]
  omega
def chV (c : Nat) : V := .str ⟨#[c]⟩
theorem dvStrs {X : Addr → Prop} {K : PySem.W.Frag} {H : Hp} : ∀ l : List Nat, DpAll K H (l.map chV) (l.map fun c => PyData.str ⟨#[c]⟩)
  | [] => .nil
  | c :: r => .cons (.str _) (dvStrs (X := X) r)
theorem layStrs : ∀ l : List Nat, (∀ c ∈ l, c < 1114112) → PyData.canLayAll0 (l.map fun c => PyData.str ⟨#[c]⟩) = true ∧ PyData.depthAll (l.map fun c => PyData.str ⟨#[c]⟩) = 0
  | [], _ => ⟨by simp only [List.map_nil, PyData.canLayAll0], by simp only [List.map_nil, PyData.depthAll]⟩
  | c :: r, h => by
    obtain ⟨h1, h2⟩ := layStrs r fun x hx => h x (List.mem_cons_of_mem _ hx)
    have hc : PyData.strOk ⟨#[c]⟩ = true := by
      simp only [PyData.strOk, List.all_toArray, List.all_cons, List.all_nil, Bool.and_true, decide_eq_true_eq]
      exact h c (List.mem_cons_self ..)
    refine ⟨?_, ?_⟩
    · simp only [List.map_cons, PyData.canLayAll0, PyData.canLay0, hc, h1, Bool.and_true]
    · simp only [List.map_cons, PyData.depthAll, PyData.depth, h2]
      rfl
theorem shStrs (l : List Nat) (h : ∀ c ∈ l, c < 1114112) : SeqAt.shaped (.list (l.map fun c => PyData.str ⟨#[c]⟩)) = true := by
  obtain ⟨h1, h2⟩ := layStrs l h
  simp only [SeqAt.shaped, PyData.canLay0, PyData.depth, h1, h2]
  decide
theorem scIsWord : FnScope ["_law_value", "_law_sign"] ["_law_value"] (defScope sIsWord) := ⟨rfl, rfl, rfl, by decide +kernel, rfl, by decide +kernel, by decide +kernel⟩
theorem ok_law_is_word {f : Addr} {fd : FuncData} (F : Fun K "_law_is_word" "_law_is_word" sIsWord f fd) (T : Txt mg) : FnOk P w K mg base CX0 1 f fd ["_law_value"] (spTest nameD) := by
  refine F.ok scIsWord (fun vs H Q E h => ?_) (fun cdv A outer s H vs Q E hr h => ?_)
  · obtain ⟨v, x, X, rfl, _⟩ := h
    rfl
  · obtain ⟨v, x, X, rfl, hv, sm, q⟩ := h
    have hu := hu_of hr
    have nd := scIsWord.nd
    refine ⟨_, (C8.pss_cut (ps_if (PW.pt (pw_or (pt_not (pt_val (pe_callB call_isi (by rfl) T.isinstance (by decide +kernel) (pa_cons (pv 0) (pa_cons (pe_bltn (v := .ty "str") (by rfl) T.str (by decide +kernel) rfl) pa_nil))))) (pw_or1 (pt_not (pt_chain op_le op_le pe_int (pe_callB call_len_str (by rfl) T.len (by decide +kernel) (pa_cons (pv 0) pa_nil)) pe_int)))))
      (pss_one (ps_ret pe_bl))
      pss_nil)
    (pss_one (ps_ret (pe_cmpR (op_eqD hr.units) (pe_lc (own := [("_law_sign", 1)]) (g := gName 1) (by rfl) nd (pi_str (pv 0)) (blkOk_by (own := [("_law_sign", 1)]) (N := ["_law_value", "_law_sign"]) (sc := defScope sIsWord) (by decide +kernel)) (fun _ _ _ _ _ => (pg_name (i := 1) nd rfl (Or.inl rfl))) (fun _ _ _ _ _ => (pts_one (pt_cmpR op_notIn_sign (pv 1) pe_str rfl))) (fun _ _ _ _ _ => (pv 1))) (pe_lst pa_nil) (nomark _))))), ?_⟩
    refine ⟨fun σ H' => H' = H ∧ ∃ z : Str, x = .str z ∧ v = .str z ∧ σ = [some (.str z), none] ∧ 1 ≤ z.cps.toList.length ∧ z.cps.toList.length ≤ 8 ∧ ∀ c ∈ z.cps.toList, c < 1114112, ?_, ?_⟩
    · refine ⟨v, rfl, v, .ty "str", _, _, _, rfl, .ty "str", hv.ty, is_strD x, _, rfl, ?_⟩
      cases hv with
      | str z =>
        refine iteF ?_
        refine ⟨.str z, rfl, z, rfl, len_le sm.1 (by decide), _, _, rfl, rfl, _, rfl, ite2 (fun h1 => ?_) (fun h1 => ?_)⟩
        · have e1 : (1 : Int) ≤ z.length := of_decide_eq_true h1
          have e2 : z.length = z.cps.toList.length := rfl
          refine ⟨_, _, rfl, rfl, _, rfl, ?_⟩
          by_cases h8 : (z.length : Int) ≤ 8
          · rw [decide_eq_true h8]
            refine iteF ?_
            exact ⟨rfl, z, rfl, rfl, rfl, by omega, by omega, sm.2⟩
          · rw [decide_eq_false h8]
            refine iteT ?_
            have e : nameD (.str z) = false := by
              show (decide (1 ≤ z.cps.toList.length) && decide (z.cps.toList.length ≤ 8) && z.cps.toList.all lowB) = false
              rw [decide_eq_false (show ¬ z.cps.toList.length ≤ 8 by omega), Bool.and_false, Bool.false_and]
            have := q H (Same.refl H)
            rw [e] at this
            exact this
        · refine ⟨_, rfl, iteT ?_⟩
          have e1 : ¬ (1 : Int) ≤ z.length := fun z => h1 (decide_eq_true z)
          have e2 : z.length = z.cps.toList.length := rfl
          have e : nameD (.str z) = false := by
            show (decide (1 ≤ z.cps.toList.length) && decide (z.cps.toList.length ≤ 8) && z.cps.toList.all lowB) = false
            rw [decide_eq_false (show ¬ 1 ≤ z.cps.toList.length by omega), Bool.false_and, Bool.false_and]
          have := q H (Same.refl H)
          rw [e] at this
          exact this
      | _ => exact iteT (q H (Same.refl H))
    · rintro σ H' ⟨rfl, z, rfl, rfl, rfl, h1, h8, sm⟩
      refine ⟨.str z, rfl, z, rfl, fun D nD => ?_⟩
      refine lc_it walk_str (fun i Hi => Hi D = some (.lst (((z.cps.toList.take i).filter fun c => !lowB c).map chV)) ∧ ∀ b x, b ≠ D → H' b = some x → Hi b = some x) ⟨upd_same, fun b x nb e => by rw [upd_ne nb]; exact e⟩ (fun _ _ _ _ => trivial) ?_ ?_
      · rintro i y Hi Hj hi ⟨hD, hk⟩ ⟨rfl, c, hc, rfl⟩
        have hci : z.cps.toList[i]? = some c := by rw [Array.getElem?_toList]; exact hc
        have et : z.cps.toList.take (i + 1) = z.cps.toList.take i ++ [c] := by rw [List.take_add_one, hci]; rfl
        refine ⟨rfl, .str ⟨#[c]⟩, rfl, c, _, rfl, rfl, _, rfl, ?_⟩
        rw [abc_low]
        cases hc : lowB c with
        | true =>
          refine iteF ⟨?_, hk⟩
          rw [et, List.filter_append]
          simp only [List.filter_cons, hc, List.filter_nil, Bool.not_true, Bool.false_eq_true, if_false, List.append_nil]
          exact hD
        | false =>
          refine iteT ⟨.str ⟨#[c]⟩, rfl, _, hD, ?_, ?_, fun b x nb e => by rw [upd_ne nb]; exact hk b x nb e⟩
          · rw [List.length_map]
            have h1 := List.length_filter_le (fun c => !lowB c) (z.cps.toList.take i)
            have h2 : (z.cps.toList.take i).length ≤ 8 := by rw [List.length_take]; omega
            exact small1000 (by omega)
          · rw [upd_same, et, List.filter_append]
            simp only [List.filter_cons, hc, List.filter_nil, Bool.not_false, if_true, List.map_append]
            rfl
      · rintro Hi ⟨hD, hk⟩
        rw [show z.cps.size = z.cps.toList.length from rfl, List.take_length] at hD
        refine ⟨Nat.zero_le _, fun p np => ?_⟩
        have e1 : (upd Hi p (.lst [])) D = some (.lst ((z.cps.toList.filter fun c => !lowB c).map chV)) := new_same np _ _ hD
        refine ⟨_, .list [], .lst (.inl (.inl e1)) (dvStrs (X := X) _), .lst (.inl (.inl upd_same)) .nil, shStrs _ (fun c hc => sm c (List.mem_filter.mp hc).1), rfl, ?_⟩
        have e : PyData.eqv (.list ((z.cps.toList.filter fun c => !lowB c).map fun c => PyData.str ⟨#[c]⟩)) (.list []) = nameD (.str z) := by
          show _ = (decide (1 ≤ z.cps.toList.length) && decide (z.cps.toList.length ≤ 8) && z.cps.toList.all lowB)
          rw [decide_eq_true h1, decide_eq_true h8]
          cases hf : z.cps.toList.filter (fun c => !lowB c) with
          | nil =>
            have : z.cps.toList.all lowB = true := List.all_eq_true.mpr fun c hc => by
              cases hl : lowB c with
              | true => rfl
              | false =>
                have : c ∈ z.cps.toList.filter (fun c => !lowB c) := List.mem_filter.mpr ⟨hc, by rw [hl]; rfl⟩
                rw [hf] at this
                cases this
            rw [this]
            rfl
          | cons c r =>
            have hm : c ∈ z.cps.toList.filter (fun c => !lowB c) := by rw [hf]; exact List.mem_cons_self ..
            obtain ⟨h3, h4⟩ := List.mem_filter.mp hm
            have : z.cps.toList.all lowB = false := by
              cases hl : z.cps.toList.all lowB with
              | false => rfl
              | true => rw [List.all_eq_true.mp hl c h3] at h4; cases h4
            rw [this]
            rfl
        rw [e]
        exact q _ fun b x e => new_same np _ _ (hk b x (ne_of_none e nD) e)
end
end Rk

set_option Elab.async false
set_option linter.all false
set_option maxRecDepth 100000
set_option maxHeartbeats 1000000
namespace Rk
open PySem L2 DL
section
variable {P : Program} {w : World} {K : PySem.W.Frag} {mg : Str → Option Value} {base : Heap}
/-! ### events: the small defs -/
inductive Ev
  | lay (r : Str) (l : Int)
  | cut (r : Str) (l : Int)
  | dike (r : Str) (i l : Int)
  | lift (ls : List Int)
  | fault (i t : Int)
  | tilt (s : Int)
structure Cs where
  lay : Addr
  cut : Addr
  dike : Addr
  lift : Addr
  fault : Addr
  tilt : Addr
def evC (c : Cs) : Ev → Addr
  | .lay _ _ => c.lay
  | .cut _ _ => c.cut
  | .dike _ _ _ => c.dike
  | .lift _ => c.lift
  | .fault _ _ => c.fault
  | .tilt _ => c.tilt
def intsT (ls : List Int) : DL.D := .tup (ls.map DL.D.int)
def evF : Ev → List (Str × DL.D)
  | .lay r l => [("item", .tup [.str "lay", .str r]), ("level", .int l), ("span", .non)]
  | .cut r l => [("item", .tup [.str "cut", .str r]), ("level", .int l), ("span", .non)]
  | .dike r i l => [("item", .tup [.str "dike", .str r]), ("at", .int i), ("level", .int l)]
  | .lift ls => [("item", .non), ("_lifts", intsT ls)]
  | .fault i t => [("item", .non), ("at", .int i), ("throw", .int t)]
  | .tilt s => [("item", .non), ("slope", .int s)]
def oE (c : Cs) (e : Ev) : DL.D := .obj (evC c e) (evF e)
def dE : Ev → DL.D
  | .lay r l => .tup [.str "lay", .str r, .int l]
  | .cut r l => .tup [.str "cut", .str r, .int l]
  | .dike r i l => .tup [.str "dike", .str r, .int i, .int l]
  | .lift ls => .tup [.str "lift", .lst (ls.map DL.D.int)]
  | .fault i t => .tup [.str "fault", .int i, .int t]
  | .tilt s => .tup [.str "tilt", .int s]
def GoodE : Ev → Prop
  | .lay r _ => wordB r = true
  | .cut r _ => wordB r = true
  | .dike r i _ => wordB r = true ∧ 0 ≤ i ∧ i < 12
  | .lift ls => 1 ≤ ls.length ∧ ls.length ≤ 12
  | .fault i _ => 0 ≤ i ∧ i < 12
  | .tilt _ => True
structure SecV (K : PySem.W.Frag) (mg : Str → Option Value) where
  C : Addr
  mgC : mg "Section" = some (.ref C)
  mc : Value
  u : Value
  rd : ClX.CRead K C mc
  most : ClX.CVal K C mc "MOST_COLUMNS" (.int 12) u
def TNeedN : CD := fun ds Q => ∃ z : Str, ds = [.str z] ∧ wordB z = true ∧ Q .non
theorem mono_needn : CMono TNeedN := fun ds Q Q' h ⟨z, a, b, q⟩ => ⟨z, a, b, h _ q⟩
theorem b_needn {k : Nat} {f : Addr} {fd : FuncData} {ps : List Str} (F : FnOk P w K mg base CX0 k f fd ps spNeedName) : FnOk P w K mg base CX0 k f fd ps (spP TNeedN) := F.imp fun vs H Q E ⟨ds, O, r, old, z, e, hz, q⟩ => by
  subst e
  cases r with
  | cons r1 r =>
    cases r
    cases r1
    exact ⟨z, rfl, hz, fun H' sm => q _ H' sm .non⟩
def TNeedL : CD := fun ds Q => ∃ i : Int, ds = [.int i] ∧ Q .non
theorem mono_needl : CMono TNeedL := fun ds Q Q' h ⟨i, e, q⟩ => ⟨i, e, h _ q⟩
theorem b_needl {k : Nat} {f : Addr} {fd : FuncData} {ps : List Str} (F : FnOk P w K mg base CX0 k f fd ps spNeedLevel) : FnOk P w K mg base CX0 k f fd ps (spP TNeedL) := F.imp fun vs H Q E ⟨ds, O, r, old, i, e, q⟩ => by
  subst e
  cases r with
  | cons r1 r =>
    cases r
    cases r1
    exact ⟨i, rfl, fun H' sm => q _ H' sm .non⟩
/-- a def that is never called -/
def TNo : CD := fun _ _ => False
theorem mono_no : CMono TNo := fun _ _ _ _ h => h
theorem g_no {k : Nat} {f : Addr} {fd : FuncData} {ps : List Str} : FnOk P w K mg base CX0 k f fd ps (spP TNo) := ⟨fun _ _ _ _ ⟨_, _, _, _, h⟩ => h.elim, fun _ _ _ _ _ _ _ _ _ _ _ _ _ ⟨_, _, _, _, h⟩ => h.elim⟩
def TNeedS : CD := fun ds Q => ds = [.non] ∧ Q .non
theorem mono_needs : CMono TNeedS := fun ds Q Q' h ⟨e, q⟩ => ⟨e, h _ q⟩
theorem d_needs {f fS : Addr} {fd fdS : FuncData} (F : Fun K "need_span_or_none" "need_span_or_none" sNeedSpanOrNone f fd) (T : Txt mg) (DSP : DefAt K mg "is_span" sIsSpan ["value"] fS fdS) : FnOk P w K mg base CX0 3 f fd ["value"] (spP TNeedS) := by
  have GSPd := g_no (P := P) (w := w) (K := K) (mg := mg) (base := base) (k := 1) (f := fS) (fd := fdS) (ps := ["value"])
  have sc : FnScope ["value"] ["value"] (defScope sNeedSpanOrNone) := ⟨rfl, rfl, rfl, by decide +kernel, rfl, by decide +kernel, by decide +kernel⟩
  refine fn_okP F sc (fun ds Q h => ?_) (fun cdv A outer s H E hr => ?_)
  · rw [h.1]; rfl
  · have nd := sc.nd
    refine ⟨_, (ss_one (s_if (WV.b (w_and (b_cmp op_notN o_notN (vn 0) v_non (nomark _)) (w_and1 (b_not (b_val (v_call (FnOk.pure GSPd mono_no noMd) mono_no.lift (hr.mono (by decide)) (by rfl) DSP.M DSP.F.kp DSP.B (a_cons (vn 0) a_nil)))))))
      (ss_one s_never)
      ss_nil)), fun ds Q h => ?_⟩
    obtain ⟨e, q⟩ := h
    subst e
    exact ⟨_, rfl, rfl, _, rfl, iteF (iteF q)⟩
def TNeedC : CD := fun ds Q => ∃ i : Int, ds = [.int i] ∧ 0 ≤ i ∧ i < 12 ∧ Q .non
theorem mono_needc : CMono TNeedC := fun ds Q Q' h ⟨i, a, b, c, q⟩ => ⟨i, a, b, c, h _ q⟩
theorem d_needc (SV : SecV K mg) {f fX fL : Addr} {fd fdX fdL : FuncData} (F : Fun K "need_column" "need_column" sNeedColumn f fd) (T : Txt mg) (DIX : DefAt K mg "is_index" sIsIndex ["value", "count"] fX fdX) (DL0 : DefAt K mg "is_level" sIsLevel ["value"] fL fdL) : FnOk P w K mg base CX0 3 f fd ["value"] (spP TNeedC) := by
  have GIXd := d_index (P := P) (w := w) (base := base) DIX.F T DL0
  have sc : FnScope ["value"] ["value"] (defScope sNeedColumn) := ⟨rfl, rfl, rfl, by decide +kernel, rfl, by decide +kernel, by decide +kernel⟩
  refine fn_okP F sc (fun ds Q h => ?_) (fun cdv A outer s H E hr => ?_)
  · obtain ⟨i, e, _⟩ := h
    rw [e]; rfl
  · have nd := sc.nd
    refine ⟨_, (ss_one (s_if (b_not (b_val (v_call (FnOk.pure GIXd mono_index noMd) mono_index.lift (hr.mono (by decide)) (by rfl) DIX.M DIX.F.kp DIX.B (a_cons (vn 0) (a_cons (v_cval (v_glob (v := .ref SV.C) (d := .ptr SV.C) (by rfl) SV.mgC rfl (fun _ _ => .ptr _)) SV.rd SV.most) a_nil)))))
      (ss_one s_never)
      ss_nil)), fun ds Q h => ?_⟩
    obtain ⟨i, e, h0, h1, q⟩ := h
    subst e
    have hx : idxB (.int i) 12 = true := by
      show (decide (0 ≤ i) && decide (i < ((12 : Nat) : Int))) = true
      rw [decide_eq_true h0, decide_eq_true (by omega)]; rfl
    refine ⟨_, rfl, rfl, _, _, 12, rfl, rfl, _, rfl, ?_⟩
    rw [hx]
    exact iteF q
def TWidth : CD := fun ds Q => ∃ i : Int, ds = [.int i] ∧ 1 ≤ i ∧ i ≤ 12 ∧ Q (.bl true)
theorem mono_width : CMono TWidth := fun ds Q Q' h ⟨i, a, b, c, q⟩ => ⟨i, a, b, c, h _ q⟩
theorem d_width (SV : SecV K mg) {f fL : Addr} {fd fdL : FuncData} (F : Fun K "is_width" "is_width" sIsWidth f fd) (T : Txt mg) (DL0 : DefAt K mg "is_level" sIsLevel ["value"] fL fdL) : FnOk P w K mg base CX0 2 f fd ["value"] (spP TWidth) := by
  have GLd := d_level (P := P) (w := w) (base := base) DL0.F T
  have sc : FnScope ["value"] ["value"] (defScope sIsWidth) := ⟨rfl, rfl, rfl, by decide +kernel, rfl, by decide +kernel, by decide +kernel⟩
  refine fn_okP F sc (fun ds Q h => ?_) (fun cdv A outer s H E hr => ?_)
  · obtain ⟨i, e, _⟩ := h
    rw [e]; rfl
  · have nd := sc.nd
    refine ⟨_, (ss_one (s_ret (v_and (v_call (FnOk.pure GLd mono_level noMd) mono_level.lift (hr.mono (by decide)) (by rfl) DL0.M DL0.F.kp DL0.B (a_cons (vn 0) a_nil)) (v_one (v_chain op_le o_le op_le o_le v_int (vn 0) (v_cval (v_glob (v := .ref SV.C) (d := .ptr SV.C) (by rfl) SV.mgC rfl (fun _ _ => .ptr _)) SV.rd SV.most)))))), fun ds Q h => ?_⟩
    obtain ⟨i, e, h0, h1, q⟩ := h
    subst e
    refine ⟨_, rfl, _, _, rfl, rfl, _, rfl, iteT ⟨_, rfl, _, _, rfl, rfl, _, rfl, ?_⟩⟩
    rw [decide_eq_true h0]
    refine iteT ⟨rfl, _, _, rfl, rfl, ?_⟩
    show Q (.bl (decide (i ≤ 12)))
    rw [decide_eq_true h1]
    exact q
end
end Rk

set_option Elab.async false
set_option linter.all false
set_option maxRecDepth 100000
set_option maxHeartbeats 1000000
namespace Rk
open PySem L2 DL
section
variable {P : Program} {w : World} {K : PySem.W.Frag} {mg : Str → Option Value} {base : Heap}
/-! ### events made -/
structure OwnK (K : PySem.W.Frag) (mg : Str → Option Value) (nm qi qe : Str) (sI sE : Stmt) (ps : List Str) (kws : List (Str × V)) where
  C : Addr
  oc : OwnC K C
  mgC : mg nm = some (.ref C)
  fI : Addr
  fdI : FuncData
  mkC : Mk K C fI
  FI : FunD K "__init__" qi (defArgs sI) (defBody sI) (defScope sI) [] kws fI fdI
  ds : List Value
  hd : Vals (kws.map (·.2)) ds
  bI : Binds K fdI ps ds
  fQ : Addr
  eQ : FuncData
  FEq : Fun K "__eq__" qe sE fQ eQ
  bEq : Binds K eQ ["self", "other"] []
  hEq : PySem.W.findIn K (.ref C) "__eq__" = some (some (.ref fQ))
  iEq : PySem.W.isFn K (.ref fQ) = true
  hNe : PySem.W.findIn K (.ref C) "__ne__" = some (some (.builtin "object.__ne__"))
  nItem : NoAttr K C "item"
  nLevel : NoAttr K C "level"
  nSpan : NoAttr K C "span"
  nAt : NoAttr K C "at"
  nThrow : NoAttr K C "throw"
  nSlope : NoAttr K C "slope"
  nLifts : NoAttr K C "_lifts"
abbrev sLayI : Stmt := (inClass (top 63) 0)
abbrev sLayE : Stmt := (inClass (top 63) 2)
abbrev KLay (K : PySem.W.Frag) (mg : Str → Option Value) := OwnK K mg "Lay" "Lay.__init__" "Lay.__eq__" sLayI sLayE ["self", "rock", "level", "span"] [("span", .non)]
abbrev sCutI : Stmt := (inClass (top 64) 0)
abbrev sCutE : Stmt := (inClass (top 64) 2)
abbrev KCut (K : PySem.W.Frag) (mg : Str → Option Value) := OwnK K mg "Cut" "Cut.__init__" "Cut.__eq__" sCutI sCutE ["self", "name", "level", "span"] [("span", .non)]
abbrev sDikeI : Stmt := (inClass (top 65) 0)
abbrev sDikeE : Stmt := (inClass (top 65) 2)
abbrev KDike (K : PySem.W.Frag) (mg : Str → Option Value) := OwnK K mg "Dike" "Dike.__init__" "Dike.__eq__" sDikeI sDikeE ["self", "rock", "at", "level"] []
abbrev sLiftI : Stmt := (inClass (top 66) 0)
abbrev sLiftE : Stmt := (inClass (top 66) 3)
abbrev KLift (K : PySem.W.Frag) (mg : Str → Option Value) := OwnK K mg "Lift" "Lift.__init__" "Lift.__eq__" sLiftI sLiftE ["self", "lifts"] []
abbrev sFaultI : Stmt := (inClass (top 67) 0)
abbrev sFaultE : Stmt := (inClass (top 67) 2)
abbrev KFault (K : PySem.W.Frag) (mg : Str → Option Value) := OwnK K mg "Fault" "Fault.__init__" "Fault.__eq__" sFaultI sFaultE ["self", "at", "throw"] []
abbrev sTiltI : Stmt := (inClass (top 68) 0)
abbrev sTiltE : Stmt := (inClass (top 68) 2)
abbrev KTilt (K : PySem.W.Frag) (mg : Str → Option Value) := OwnK K mg "Tilt" "Tilt.__init__" "Tilt.__eq__" sTiltI sTiltE ["self", "slope"] []
structure EvK (K : PySem.W.Frag) (mg : Str → Option Value) where
  lay : KLay K mg
  cut : KCut K mg
  dike : KDike K mg
  lift : KLift K mg
  fault : KFault K mg
  tilt : KTilt K mg
def EvK.cs (k : EvK K mg) : Cs := ⟨k.lay.C, k.cut.C, k.dike.C, k.lift.C, k.fault.C, k.tilt.C⟩
structure SmD (P : Program) (w : World) (K : PySem.W.Frag) (mg : Str → Option Value) (base : Heap) where
  fNN : Addr
  fdNN : FuncData
  DNN : DefAt K mg "need_name" sNeedName ["value"] fNN fdNN
  GNN : FnOk P w K mg base CX0 2 fNN fdNN ["value"] (spP TNeedN)
  fNL : Addr
  fdNL : FuncData
  DNL : DefAt K mg "need_level" sNeedLevel ["value"] fNL fdNL
  GNL : FnOk P w K mg base CX0 2 fNL fdNL ["value"] (spP TNeedL)
  fNS : Addr
  fdNS : FuncData
  DNS : DefAt K mg "need_span_or_none" sNeedSpanOrNone ["value"] fNS fdNS
  GNS : FnOk P w K mg base CX0 3 fNS fdNS ["value"] (spP TNeedS)
  fNC : Addr
  fdNC : FuncData
  DNC : DefAt K mg "need_column" sNeedColumn ["value"] fNC fdNC
  GNC : FnOk P w K mg base CX0 3 fNC fdNC ["value"] (spP TNeedC)
  fWD : Addr
  fdWD : FuncData
  DWD : DefAt K mg "is_width" sIsWidth ["value"] fWD fdWD
  GWD : FnOk P w K mg base CX0 2 fWD fdWD ["value"] (spP TWidth)
def TILay : DL.TI := fun ds Q => ∃ (r : Str) (l : Int), ds = [.str r, .int l, .non] ∧ wordB r = true ∧ Q (evF (.lay r l))
theorem mono_iLay : ∀ ds K K', (∀ fs, K fs → K' fs) → TILay ds K → TILay ds K' := fun ds K K' h ⟨r, l, e, a, q⟩ => ⟨r, l, e, a, h _ q⟩
theorem d_iLay (o : KLay K mg) (T : Txt mg) (SD : SmD P w K mg base) : FnOk P w K mg base CX0 8 o.fI o.fdI ["self", "rock", "level", "span"] (spJ o.C TILay) := by
  have sc : FnScope ["self", "rock", "level", "span"] ["self", "rock", "level", "span"] (defScope sLayI) := ⟨rfl, rfl, rfl, by decide +kernel, rfl, by decide +kernel, by decide +kernel⟩
  refine fn_okJ o.FI sc (fun ds Q h => ?_) (by decide) (fun cdv A outer s H E hr => ?_)
  · obtain ⟨r, l, e, hr', q⟩ := h
    rw [e]; rfl
  · have nd := sc.nd
    refine ⟨_, (ss_cons (s_exp (v_call (FnOk.pure SD.GNN mono_needn noMd) mono_needn.lift (hr.mono (by decide)) (by rfl) SD.DNN.M SD.DNN.F.kp SD.DNN.B (a_cons (vn 1) a_nil)))
    (ss_cons (s_exp (v_call (FnOk.pure SD.GNL mono_needl noMd) mono_needl.lift (hr.mono (by decide)) (by rfl) SD.DNL.M SD.DNL.F.kp SD.DNL.B (a_cons (vn 2) a_nil)))
    (ss_cons (s_exp (v_call (FnOk.pure SD.GNS mono_needs noMd) mono_needs.lift (hr.mono (by decide)) (by rfl) SD.DNS.M SD.DNS.F.kp SD.DNS.B (a_cons (vn 3) a_nil)))
    (ss_cons (s_fld (pv 0) (v_tup (a_cons v_str (a_cons (vn 1) a_nil))))
    (ss_cons (s_fld (pv 0) (vn 2))
    (ss_one (s_fld (pv 0) (vn 3)))))))), fun dx ds Q h => ?_⟩
    obtain ⟨r, l, e, hr', q⟩ := h
    subst e
    exact ⟨_, rfl, r, rfl, hr', _, rfl, l, rfl, _, rfl, rfl, _, rfl, (by show 2 ≤ sizeLine; decide), _, _, _, rfl, o.oc.cl, o.nItem, rfl, by decide, _, rfl, _, _, _, rfl, o.oc.cl, o.nLevel, rfl, (show 1 < 1000 by decide), _, rfl, _, _, _, rfl, o.oc.cl, o.nSpan, rfl, (show 2 < 1000 by decide), _, rfl, q⟩
def TICut : DL.TI := fun ds Q => ∃ (r : Str) (l : Int), ds = [.str r, .int l, .non] ∧ wordB r = true ∧ Q (evF (.cut r l))
theorem mono_iCut : ∀ ds K K', (∀ fs, K fs → K' fs) → TICut ds K → TICut ds K' := fun ds K K' h ⟨r, l, e, a, q⟩ => ⟨r, l, e, a, h _ q⟩
theorem d_iCut (o : KCut K mg) (T : Txt mg) (SD : SmD P w K mg base) : FnOk P w K mg base CX0 8 o.fI o.fdI ["self", "name", "level", "span"] (spJ o.C TICut) := by
  have sc : FnScope ["self", "name", "level", "span"] ["self", "name", "level", "span"] (defScope sCutI) := ⟨rfl, rfl, rfl, by decide +kernel, rfl, by decide +kernel, by decide +kernel⟩
  refine fn_okJ o.FI sc (fun ds Q h => ?_) (by decide) (fun cdv A outer s H E hr => ?_)
  · obtain ⟨r, l, e, hr', q⟩ := h
    rw [e]; rfl
  · have nd := sc.nd
    refine ⟨_, (ss_cons (s_exp (v_call (FnOk.pure SD.GNN mono_needn noMd) mono_needn.lift (hr.mono (by decide)) (by rfl) SD.DNN.M SD.DNN.F.kp SD.DNN.B (a_cons (vn 1) a_nil)))
    (ss_cons (s_exp (v_call (FnOk.pure SD.GNL mono_needl noMd) mono_needl.lift (hr.mono (by decide)) (by rfl) SD.DNL.M SD.DNL.F.kp SD.DNL.B (a_cons (vn 2) a_nil)))
    (ss_cons (s_exp (v_call (FnOk.pure SD.GNS mono_needs noMd) mono_needs.lift (hr.mono (by decide)) (by rfl) SD.DNS.M SD.DNS.F.kp SD.DNS.B (a_cons (vn 3) a_nil)))
    (ss_cons (s_fld (pv 0) (v_tup (a_cons v_str (a_cons (vn 1) a_nil))))
    (ss_cons (s_fld (pv 0) (vn 2))
    (ss_one (s_fld (pv 0) (vn 3)))))))), fun dx ds Q h => ?_⟩
    obtain ⟨r, l, e, hr', q⟩ := h
    subst e
    exact ⟨_, rfl, r, rfl, hr', _, rfl, l, rfl, _, rfl, rfl, _, rfl, (by show 2 ≤ sizeLine; decide), _, _, _, rfl, o.oc.cl, o.nItem, rfl, by decide, _, rfl, _, _, _, rfl, o.oc.cl, o.nLevel, rfl, (show 1 < 1000 by decide), _, rfl, _, _, _, rfl, o.oc.cl, o.nSpan, rfl, (show 2 < 1000 by decide), _, rfl, q⟩
def TIDike : DL.TI := fun ds Q => ∃ (r : Str) (i l : Int), ds = [.str r, .int i, .int l] ∧ wordB r = true ∧ 0 ≤ i ∧ i < 12 ∧ Q (evF (.dike r i l))
theorem mono_iDike : ∀ ds K K', (∀ fs, K fs → K' fs) → TIDike ds K → TIDike ds K' := fun ds K K' h ⟨r, i, l, e, a, b, c, q⟩ => ⟨r, i, l, e, a, b, c, h _ q⟩
theorem d_iDike (o : KDike K mg) (T : Txt mg) (SD : SmD P w K mg base) : FnOk P w K mg base CX0 8 o.fI o.fdI ["self", "rock", "at", "level"] (spJ o.C TIDike) := by
  have sc : FnScope ["self", "rock", "at", "level"] ["self", "rock", "at", "level"] (defScope sDikeI) := ⟨rfl, rfl, rfl, by decide +kernel, rfl, by decide +kernel, by decide +kernel⟩
  refine fn_okJ o.FI sc (fun ds Q h => ?_) (by decide) (fun cdv A outer s H E hr => ?_)
  · obtain ⟨r, i, l, e, hr', i0, i1, q⟩ := h
    rw [e]; rfl
  · have nd := sc.nd
    refine ⟨_, (ss_cons (s_exp (v_call (FnOk.pure SD.GNN mono_needn noMd) mono_needn.lift (hr.mono (by decide)) (by rfl) SD.DNN.M SD.DNN.F.kp SD.DNN.B (a_cons (vn 1) a_nil)))
    (ss_cons (s_exp (v_call (FnOk.pure SD.GNC mono_needc noMd) mono_needc.lift (hr.mono (by decide)) (by rfl) SD.DNC.M SD.DNC.F.kp SD.DNC.B (a_cons (vn 2) a_nil)))
    (ss_cons (s_exp (v_call (FnOk.pure SD.GNL mono_needl noMd) mono_needl.lift (hr.mono (by decide)) (by rfl) SD.DNL.M SD.DNL.F.kp SD.DNL.B (a_cons (vn 3) a_nil)))
    (ss_cons (s_fld (pv 0) (v_tup (a_cons v_str (a_cons (vn 1) a_nil))))
    (ss_cons (s_fld (pv 0) (vn 2))
    (ss_one (s_fld (pv 0) (vn 3)))))))), fun dx ds Q h => ?_⟩
    obtain ⟨r, i, l, e, hr', i0, i1, q⟩ := h
    subst e
    exact ⟨_, rfl, r, rfl, hr', _, rfl, i, rfl, i0, i1, _, rfl, l, rfl, _, rfl, (by show 2 ≤ sizeLine; decide), _, _, _, rfl, o.oc.cl, o.nItem, rfl, by decide, _, rfl, _, _, _, rfl, o.oc.cl, o.nAt, rfl, (show 1 < 1000 by decide), _, rfl, _, _, _, rfl, o.oc.cl, o.nLevel, rfl, (show 2 < 1000 by decide), _, rfl, q⟩
def TIFault : DL.TI := fun ds Q => ∃ (i l : Int), ds = [.int i, .int l] ∧ 0 ≤ i ∧ i < 12 ∧ Q (evF (.fault i l))
theorem mono_iFault : ∀ ds K K', (∀ fs, K fs → K' fs) → TIFault ds K → TIFault ds K' := fun ds K K' h ⟨i, l, e, b, c, q⟩ => ⟨i, l, e, b, c, h _ q⟩
theorem d_iFault (o : KFault K mg) (T : Txt mg) (SD : SmD P w K mg base) : FnOk P w K mg base CX0 8 o.fI o.fdI ["self", "at", "throw"] (spJ o.C TIFault) := by
  have sc : FnScope ["self", "at", "throw"] ["self", "at", "throw"] (defScope sFaultI) := ⟨rfl, rfl, rfl, by decide +kernel, rfl, by decide +kernel, by decide +kernel⟩
  refine fn_okJ o.FI sc (fun ds Q h => ?_) (by decide) (fun cdv A outer s H E hr => ?_)
  · obtain ⟨i, l, e, i0, i1, q⟩ := h
    rw [e]; rfl
  · have nd := sc.nd
    refine ⟨_, (ss_cons (s_exp (v_call (FnOk.pure SD.GNC mono_needc noMd) mono_needc.lift (hr.mono (by decide)) (by rfl) SD.DNC.M SD.DNC.F.kp SD.DNC.B (a_cons (vn 1) a_nil)))
    (ss_cons (s_exp (v_call (FnOk.pure SD.GNL mono_needl noMd) mono_needl.lift (hr.mono (by decide)) (by rfl) SD.DNL.M SD.DNL.F.kp SD.DNL.B (a_cons (vn 2) a_nil)))
    (ss_cons (s_fld (pv 0) v_non)
    (ss_cons (s_fld (pv 0) (vn 1))
    (ss_one (s_fld (pv 0) (vn 2))))))), fun dx ds Q h => ?_⟩
    obtain ⟨i, l, e, i0, i1, q⟩ := h
    subst e
    exact ⟨_, rfl, i, rfl, i0, i1, _, rfl, l, rfl, _, _, _, rfl, o.oc.cl, o.nItem, rfl, by decide, _, rfl, _, _, _, rfl, o.oc.cl, o.nAt, rfl, (show 1 < 1000 by decide), _, rfl, _, _, _, rfl, o.oc.cl, o.nThrow, rfl, (show 2 < 1000 by decide), _, rfl, q⟩
def TITilt : DL.TI := fun ds Q => ∃ (l : Int), ds = [.int l] ∧ Q (evF (.tilt l))
theorem mono_iTilt : ∀ ds K K', (∀ fs, K fs → K' fs) → TITilt ds K → TITilt ds K' := fun ds K K' h ⟨l, e, q⟩ => ⟨l, e, h _ q⟩
theorem d_iTilt (o : KTilt K mg) (T : Txt mg) (SD : SmD P w K mg base) : FnOk P w K mg base CX0 8 o.fI o.fdI ["self", "slope"] (spJ o.C TITilt) := by
  have sc : FnScope ["self", "slope"] ["self", "slope"] (defScope sTiltI) := ⟨rfl, rfl, rfl, by decide +kernel, rfl, by decide +kernel, by decide +kernel⟩
  refine fn_okJ o.FI sc (fun ds Q h => ?_) (by decide) (fun cdv A outer s H E hr => ?_)
  · obtain ⟨l, e, q⟩ := h
    rw [e]; rfl
  · have nd := sc.nd
    refine ⟨_, (ss_cons (s_exp (v_call (FnOk.pure SD.GNL mono_needl noMd) mono_needl.lift (hr.mono (by decide)) (by rfl) SD.DNL.M SD.DNL.F.kp SD.DNL.B (a_cons (vn 1) a_nil)))
    (ss_cons (s_fld (pv 0) v_non)
    (ss_one (s_fld (pv 0) (vn 1))))), fun dx ds Q h => ?_⟩
    obtain ⟨l, e, q⟩ := h
    subst e
    exact ⟨_, rfl, l, rfl, _, _, _, rfl, o.oc.cl, o.nItem, rfl, by decide, _, rfl, _, _, _, rfl, o.oc.cl, o.nSlope, rfl, (show 1 < 1000 by decide), _, rfl, q⟩
def TILift : DL.TI := fun ds Q => ∃ (x : DL.D) (ls : List Int), ds = [x] ∧ (x = .lst (ls.map DL.D.int) ∨ x = .tup (ls.map DL.D.int)) ∧ 1 ≤ ls.length ∧ ls.length ≤ 12 ∧ Q (evF (.lift ls))
theorem mono_iLift : ∀ ds K K', (∀ fs, K fs → K' fs) → TILift ds K → TILift ds K' := fun ds K K' h ⟨x, ls, e, hx, a, b, q⟩ => ⟨x, ls, e, hx, a, b, h _ q⟩
theorem d_iLift (o : KLift K mg) (T : Txt mg) (SD : SmD P w K mg base) : FnOk P w K mg base CX0 8 o.fI o.fdI ["self", "lifts"] (spJ o.C TILift) := by
  have sc : FnScope ["self", "lifts", "by"] ["self", "lifts"] (defScope sLiftI) := ⟨rfl, rfl, rfl, by decide +kernel, rfl, by decide +kernel, by decide +kernel⟩
  refine fn_okJ o.FI sc (fun ds Q h => ?_) (by decide) (fun cdv A outer s H E hr => ?_)
  · obtain ⟨x, ls, e, hx, l0, l1, q⟩ := h
    rw [e]; rfl
  · have nd := sc.nd
    refine ⟨_, (ss_cons (s_if (b_not (b_val (v_callB call_isiT (k_isi2 (KK := K)) (by rfl) T.isinstance (by decide +kernel) (a_cons (vn 1) (a_cons (v_tup (a_cons (v_bltn (v := .ty "list") (d := .ty "list") (by rfl) T.list (by decide +kernel) rfl (fun _ _ => .ty _)) (a_cons (v_bltn (v := .ty "tuple") (d := .ty "tuple") (by rfl) T.tuple (by decide +kernel) rfl (fun _ _ => .ty _)) a_nil))) a_nil)))))
      (ss_one s_never)
      ss_nil)
    (ss_cons (s_if (b_not (b_val (v_call (FnOk.pure SD.GWD mono_width noMd) mono_width.lift (hr.mono (by decide)) (by rfl) SD.DWD.M SD.DWD.F.kp SD.DWD.B (a_cons (v_callB call_len_seq (k_len (KK := K)) (by rfl) T.len (by decide +kernel) (a_cons (vn 1) a_nil)) a_nil))))
      (ss_one s_never)
      ss_nil)
    (ss_cons (s_for PassesOwn.never rfl (i_seqN 1) (t_name (i := 2) nd rfl (Or.inl rfl))
      (ss_one (s_exp (v_call (FnOk.pure SD.GNL mono_needl noMd) mono_needl.lift (hr.mono (by decide)) (by rfl) SD.DNL.M SD.DNL.F.kp SD.DNL.B (a_cons (vn 2) a_nil)))))
    (ss_cons (s_fld (pv 0) v_non)
    (ss_one (s_fld (pv 0) (v_callTy call_tuple_of (k_tuple (KK := K)) (by rfl) T.tuple (by decide +kernel) (a_cons (vn 1) a_nil)))))))), fun dx ds Q h => ?_⟩
    obtain ⟨x, ls, e, hx, l0, l1, q⟩ := h
    subst e
    rcases hx with rfl | rfl
    · refine ⟨_, rfl, (by show 2 ≤ sizeLine; decide), _, _, _, _, _, _, rfl, rfl, rfl, rfl, _, rfl, iteF ⟨_, rfl, _, Or.inl rfl, _, rfl, by simp only [List.length_map]; omega, by simp only [List.length_map]; omega, _, rfl, iteF ?_⟩⟩
      refine ⟨_, Or.inl rfl, fun _ env' n' => ∃ v, env' = [.own (.self o.C dx []), .val (.lst (ls.map DL.D.int)), v] ∧ n' = 0, ⟨_, rfl, rfl⟩, fun i d env' n' hd hI => ?_, fun env' n' hI => ?_⟩
      · obtain ⟨v, e1, e2⟩ := hI
        subst e1
        subst e2
        rw [List.getElem?_map] at hd
        obtain ⟨i0, hk, e3⟩ := Option.map_eq_some_iff.mp hd
        subst e3
        exact ⟨_, rfl, _, rfl, _, rfl, _, rfl, rfl⟩
      · obtain ⟨v, e1, e2⟩ := hI
        subst e1
        subst e2
        exact ⟨_, _, _, rfl, o.oc.cl, o.nItem, rfl, by decide, _, rfl, _, Or.inl rfl, _, _, _, rfl, o.oc.cl, o.nLifts, rfl, (show 1 < 1000 by decide), _, rfl, q⟩
    · refine ⟨_, rfl, (by show 2 ≤ sizeLine; decide), _, _, _, _, _, _, rfl, rfl, rfl, rfl, _, rfl, iteF ⟨_, rfl, _, Or.inr rfl, _, rfl, by simp only [List.length_map]; omega, by simp only [List.length_map]; omega, _, rfl, iteF ?_⟩⟩
      refine ⟨_, Or.inr rfl, fun _ env' n' => ∃ v, env' = [.own (.self o.C dx []), .val (.tup (ls.map DL.D.int)), v] ∧ n' = 0, ⟨_, rfl, rfl⟩, fun i d env' n' hd hI => ?_, fun env' n' hI => ?_⟩
      · obtain ⟨v, e1, e2⟩ := hI
        subst e1
        subst e2
        rw [List.getElem?_map] at hd
        obtain ⟨i0, hk, e3⟩ := Option.map_eq_some_iff.mp hd
        subst e3
        exact ⟨_, rfl, _, rfl, _, rfl, _, rfl, rfl⟩
      · obtain ⟨v, e1, e2⟩ := hI
        subst e1
        subst e2
        exact ⟨_, _, _, rfl, o.oc.cl, o.nItem, rfl, by decide, _, rfl, _, Or.inr rfl, _, _, _, rfl, o.oc.cl, o.nLifts, rfl, (show 1 < 1000 by decide), _, rfl, q⟩
end
end Rk

set_option Elab.async false
set_option linter.all false
set_option maxRecDepth 100000
set_option maxHeartbeats 1000000
namespace Rk
open PySem L2 DL
section
variable {P : Program} {w : World} {K : PySem.W.Frag} {mg : Str → Option Value} {base : Heap}
/-! ### events refused -/
def dPow : RD := fun x y K => ∃ i j, x = .int i ∧ y = .int j ∧ CPow i j ∧ K (.int (i ^ j.toNat))
theorem o_pow : OpD (rI CPow fun i j => .int (i ^ j.toNat)) dPow := opd_Ic fun _ _ _ _ => .int _
theorem wordT {d : D} (h : nameT d = true) : ∃ z, d = .str z ∧ wordB z = true := by
  cases d with
  | str z => exact ⟨z, rfl, by simpa [nameT, pd, nameD] using h⟩
  | _ => simp [nameT, pd, nameD] at h
theorem ss_never {X : Cx} {m : Md} {ss : List Stmt} : SsV X m ss (fun _ _ _ => False) := ⟨fun _ _ _ => False, ⟨fun _ _ _ _ _ _ h => h.elim⟩, fun _ _ _ _ _ _ _ _ _ _ h => h⟩
def TNeedLX (C' : Addr) : FX := fun ds n K E => ∃ d t, ds = [d] ∧ tyN d = some t ∧ Cpy 6 d ∧ (isIntT d = true → K .non n) ∧ (isIntT d = false → E C' [("value", d)] n)
theorem mono_needlx {C' : Addr} : XMono (TNeedLX C') := fun ds n K K' E E' hk he ⟨d, t, e, a, c, g, b⟩ => ⟨d, t, e, a, c, fun h => hk _ _ (g h), fun h => he _ _ _ (b h)⟩
theorem d_needlx {fL fNL fC : Addr} {fdL fdNL fdC : FuncData} (M : ErrF K mg "InvalidLevel" "value" "InvalidLevel.__init__" "ValueError" "ValueError.__new__" "ValueError.__init__" mroValueError sInvalidLevelInit) (T : Txt mg) (DCP : DefAt K mg "copied" sCopied ["value"] fC fdC) (DL0 : DefAt K mg "is_level" sIsLevel ["value"] fL fdL) (DNL : DefAt K mg "need_level" sNeedLevel ["value"] fNL fdNL) (m : Md) : FnOk P w K mg base (L2.CX P w) 10 fNL fdNL ["value"] (spX m (TNeedLX M.C)) := by
  have GLd := d_level (P := P) (w := w) (base := base) DL0.F T
  have GIL := d_InvalidLevel (P := P) (w := w) (base := base) M DCP T 6
  have sc : FnScope ["value"] ["value"] (defScope sNeedLevel) := ⟨rfl, rfl, rfl, by decide +kernel, rfl, by decide +kernel, by decide +kernel⟩
  refine fn_okX DNL.F sc (fun ds n K E h => ?_) (fun cdv A outer s H E er hr => ?_)
  · obtain ⟨d, t, e, _⟩ := h
    rw [e]; rfl
  · have nd := sc.nd
    refine ⟨_, (ss_one (s_if (b_not (b_val (v_call (FnOk.pure GLd mono_level _) mono_level.lift (hr.mono (by decide)) (by rfl) DL0.M DL0.F.kp DL0.B (a_cons (vn 0) a_nil))))
      (ss_one (s_raise (er := fun C fs _ n => er C fs n) rfl (takes_of rfl rfl rfl rfl) M.ob M.iC M.tI GIL mono_err (hr.mono (by decide)) M.bI (by rfl) M.mgC (a_cons (vn 0) a_nil)))
      ss_nil)), fun ds n Q h => ?_⟩
    obtain ⟨d, t, e, ht, hc, good, bad⟩ := h
    subst e
    refine ⟨_, rfl, d, t, rfl, ht, _, rfl, ?_⟩
    cases h : isIntT d with
    | true => exact iteF (good h)
    | false => exact iteT ⟨_, rfl, (by show 1 ≤ 900; decide), d, rfl, hc, bad h⟩
def TNeedNX (C' : Addr) : FX := fun ds n K E => ∃ d, ds = [d] ∧ smB d = true ∧ Cpy 6 d ∧ (nameT d = true → K .non n) ∧ (nameT d = false → E C' [("value", d)] n)
theorem mono_neednx {C' : Addr} : XMono (TNeedNX C') := fun ds n K K' E E' hk he ⟨d, e, a, c, g, b⟩ => ⟨d, e, a, c, fun h => hk _ _ (g h), fun h => he _ _ _ (b h)⟩
theorem d_neednx {fN fNN fC : Addr} {fdN fdNN fdC : FuncData} {tN : Tok} (M : ErrF K mg "InvalidName" "value" "InvalidName.__init__" "ValueError" "ValueError.__new__" "ValueError.__init__" mroValueError sInvalidNameInit) (T : Txt mg) (DCP : DefAt K mg "copied" sCopied ["value"] fC fdC) (DN : DefAt K mg "is_name" sIsName ["value"] fN fdN) (DNN : DefAt K mg "need_name" sNeedName ["value"] fNN fdNN) (mgN : mg "LONGEST_NAME" = some (.int 8 tN)) (m : Md) : FnOk P w K mg base (L2.CX P w) 10 fNN fdNN ["value"] (spX m (TNeedNX M.C)) := by
  have GNd := b_name (ok_is_name (P := P) (w := w) (base := base) DN.F T mgN)
  have GIN := d_InvalidName (P := P) (w := w) (base := base) M DCP T 6
  have sc : FnScope ["value"] ["value"] (defScope sNeedName) := ⟨rfl, rfl, rfl, by decide +kernel, rfl, by decide +kernel, by decide +kernel⟩
  refine fn_okX DNN.F sc (fun ds n K E h => ?_) (fun cdv A outer s H E er hr => ?_)
  · obtain ⟨d, e, _⟩ := h
    rw [e]; rfl
  · have nd := sc.nd
    refine ⟨_, (ss_one (s_if (b_not (b_val (v_call (FnOk.pure GNd mono_name _) mono_name.lift (hr.mono (by decide)) (by rfl) DN.M DN.F.kp DN.B (a_cons (vn 0) a_nil))))
      (ss_one (s_raise (er := fun C fs _ n => er C fs n) rfl (takes_of rfl rfl rfl rfl) M.ob M.iC M.tI GIN mono_err (hr.mono (by decide)) M.bI (by rfl) M.mgC (a_cons (vn 0) a_nil)))
      ss_nil)), fun ds n Q h => ?_⟩
    obtain ⟨d, e, hs, hc, good, bad⟩ := h
    subst e
    refine ⟨_, rfl, d, rfl, hs, _, rfl, ?_⟩
    cases h : nameT d with
    | true => exact iteF (good h)
    | false => exact iteT ⟨_, rfl, (by show 1 ≤ 900; decide), d, rfl, hc, bad h⟩
theorem isInt_of {d : D} (h : isIntT d = true) : ∃ i, d = .int i := by
  cases d with
  | int i => exact ⟨i, rfl⟩
  | _ => cases h
theorem fn_okXD {m : Md} {x qual : Str} {params : Arguments} {body : List Stmt} {scope : Scope} {dvs : List V} {kws : List (Str × V)} {f : Addr} {fd : FuncData} {N ps : List Str} {k : Nat} {T : FX} (Fn : FunD K x qual params body scope dvs kws f fd) (S : FnScope N ps scope) (len : ∀ ds n K E, T ds n K E → ds.length = ps.length)
    (hb : ∀ (cdv : Value) (A : Around) (outer : List Env) (s : Shared) (H : Hp) (E : XK) (er : XD), Room k (A.deeper (PyProof.Rows.envOfC qual scope s.heap.objs.size f cdv)) → ∃ TS : TDS, SsV (cxOf (L2.CX P w) P w K mg base N qual scope f cdv A outer s H E) (m.x (fun cls d _ H => E cls d H) fun C fs _ n => er C fs n) body TS ∧ ∀ ds n K, T ds n K er → TS (Zdef K) (startE N ds) n) :
    FnOk P w K mg base (L2.CX P w) (k + 1) f fd ps (spX m T) := by
  refine Fn.ok S (fun vs H Q E h => ?_) (fun cdv A outer s H vs Q E hr h => ?_)
  · obtain ⟨ds, O, n, r, _, _, _, t⟩ := h
    rw [r.length]
    exact len _ _ _ _ t
  · obtain ⟨ds, O, n, r, gd, old, st, t⟩ := h
    obtain ⟨TS, ⟨u, p, hz⟩, ht⟩ := hb cdv A outer s H E (XOut m O H E) hr
    have nn : ∀ {b : Addr} {o : HO}, H b = some o → H b ≠ none := fun h => by rw [h]; exact fun z => by cases z
    refine ⟨u, p, hz ⟨H, fun a => H a ≠ none, O⟩ _ H _ n (Zdef (Out m O H Q)) _ ⟨start_ok (m := m.x (fun cls d _ H => E cls d H) fun C fs _ n => XOut m O H E C fs n) r gd old, fun σ H' env n' C fs d vfs e' s' hd nd rf z => ?_⟩ st ⟨fun σ H' env n' e' s' q => q .non H' (fun b o nd h => e'.kp b o (nn h) nd h) s' .non, fun v H' d n' k' s' r' q => q v H' (fun b o nd h => k' b o (nn h) nd h) s' r', fun σ H' env n' _ _ q => q.elim, fun σ H' env n' _ _ q => q.elim⟩ (ht ds n _ t)⟩
    exact z d vfs H' (fun b o nd h => e'.kp b o (nn h) nd h) s' hd (fun z => nd (.inl z)) (rf.keep fun b o n q => ⟨q, fun z => n (.inl z)⟩)
def TNeedCX (C' : Addr) : FX := fun ds n K E => ∃ d t, ds = [d] ∧ tyN d = some t ∧ Cpy 6 d ∧ (idxB d 12 = true → K .non n) ∧ (idxB d 12 = false → E C' [("at", d)] n)
theorem mono_needcx {C' : Addr} : XMono (TNeedCX C') := fun ds n K K' E E' hk he ⟨d, t, e, a, c, g, b⟩ => ⟨d, t, e, a, c, fun h => hk _ _ (g h), fun h => he _ _ _ (b h)⟩
theorem d_needcx (SV : SecV K mg) {f fX fL fC : Addr} {fd fdX fdL fdC : FuncData} (MC : ErrF K mg "NoColumn" "at" "NoColumn.__init__" "IndexError" "IndexError.__new__" "IndexError.__init__" mroIndexError sNoColumnInit) (F : Fun K "need_column" "need_column" sNeedColumn f fd) (T : Txt mg) (DCP : DefAt K mg "copied" sCopied ["value"] fC fdC) (DIX : DefAt K mg "is_index" sIsIndex ["value", "count"] fX fdX) (DL0 : DefAt K mg "is_level" sIsLevel ["value"] fL fdL) (m : Md) : FnOk P w K mg base (L2.CX P w) 10 f fd ["value"] (spX m (TNeedCX MC.C)) := by
  have GIXd := d_index (P := P) (w := w) (base := base) DIX.F T DL0
  have GIC := d_NoColumn (P := P) (w := w) (base := base) MC DCP T 6
  have sc : FnScope ["value"] ["value"] (defScope sNeedColumn) := ⟨rfl, rfl, rfl, by decide +kernel, rfl, by decide +kernel, by decide +kernel⟩
  refine fn_okX F sc (fun ds n K E h => ?_) (fun cdv A outer s H E er hr => ?_)
  · obtain ⟨d, t, e, _⟩ := h
    rw [e]; rfl
  · have nd := sc.nd
    refine ⟨_, (ss_one (s_if (b_not (b_val (v_call (FnOk.pure GIXd mono_index _) mono_index.lift (hr.mono (by decide)) (by rfl) DIX.M DIX.F.kp DIX.B (a_cons (vn 0) (a_cons (v_cval (v_glob (v := .ref SV.C) (d := .ptr SV.C) (by rfl) SV.mgC rfl (fun _ _ => .ptr _)) SV.rd SV.most) a_nil)))))
      (ss_one (s_raise (er := fun C fs _ n => er C fs n) rfl (takes_of rfl rfl rfl rfl) MC.ob MC.iC MC.tI GIC mono_err (hr.mono (by decide)) MC.bI (by rfl) MC.mgC (a_cons (vn 0) a_nil)))
      ss_nil)), fun ds n K h => ?_⟩
    obtain ⟨d, t, e, ht, hc, good, bad⟩ := h
    subst e
    refine ⟨_, rfl, rfl, d, t, 12, rfl, ht, _, rfl, ?_⟩
    cases h : idxB d 12 with
    | true => exact iteF (good h)
    | false => exact iteT ⟨_, rfl, (by show 1 ≤ 900; decide), d, rfl, hc, bad h⟩
def widB (i : Int) : Bool := decide (1 ≤ i) && decide (i ≤ 12)
def TWidth2 : CD := fun ds Q => ∃ i : Int, ds = [.int i] ∧ Q (.bl (widB i))
theorem mono_width2 : CMono TWidth2 := fun ds Q Q' h ⟨i, a, q⟩ => ⟨i, a, h _ q⟩
theorem d_width2 (SV : SecV K mg) {f fL : Addr} {fd fdL : FuncData} (F : Fun K "is_width" "is_width" sIsWidth f fd) (T : Txt mg) (DL0 : DefAt K mg "is_level" sIsLevel ["value"] fL fdL) : FnOk P w K mg base CX0 2 f fd ["value"] (spP TWidth2) := by
  have GLd := d_level (P := P) (w := w) (base := base) DL0.F T
  have sc : FnScope ["value"] ["value"] (defScope sIsWidth) := ⟨rfl, rfl, rfl, by decide +kernel, rfl, by decide +kernel, by decide +kernel⟩
  refine fn_okP F sc (fun ds Q h => ?_) (fun cdv A outer s H E hr => ?_)
  · obtain ⟨i, e, _⟩ := h
    rw [e]; rfl
  · have nd := sc.nd
    refine ⟨_, (ss_one (s_ret (v_and (v_call (FnOk.pure GLd mono_level noMd) mono_level.lift (hr.mono (by decide)) (by rfl) DL0.M DL0.F.kp DL0.B (a_cons (vn 0) a_nil)) (v_one (v_chain op_le o_le op_le o_le v_int (vn 0) (v_cval (v_glob (v := .ref SV.C) (d := .ptr SV.C) (by rfl) SV.mgC rfl (fun _ _ => .ptr _)) SV.rd SV.most)))))), fun ds Q h => ?_⟩
    obtain ⟨i, e, q⟩ := h
    subst e
    unfold widB at q
    refine ⟨_, rfl, _, _, rfl, rfl, _, rfl, iteT ⟨_, rfl, _, _, rfl, rfl, _, rfl, ?_⟩⟩
    cases h : decide (1 ≤ i) with
    | true =>
      rw [h, Bool.true_and] at q
      exact iteT ⟨rfl, _, _, rfl, rfl, q⟩
    | false =>
      rw [h, Bool.false_and] at q
      exact iteF q
structure VC (d : DL.D) : Prop where
  ty : ∃ t, tyN d = some t
  c : Cpy 6 d
def TJLay (EN EL EC : Addr) : TIX := fun ds K E => ∃ a b : DL.D, ds = [a, b, .non] ∧ smB a = true ∧ VC a ∧ VC b ∧ (nameT a = false → E EN [(("value" : Str), a)]) ∧ (nameT a = true → isIntT b = false → E EL [(("value" : Str), b)]) ∧ (nameT a = true → isIntT b = true → ∀ fs, K fs)
theorem mono_jLay {EN EL EC : Addr} : IXMono (TJLay EN EL EC) := fun ds K K' E E' hk he ⟨a, b, e, sa, va, vb, q0, q1, g⟩ => ⟨a, b, e, sa, va, vb, fun h0 => he _ _ (q0 h0), fun h0 h1 => he _ _ (q1 h0 h1), fun h0 h1 fs => hk _ (g h0 h1 fs)⟩
def TBLay (EN EL EC : Addr) : FX := fun ds n K E => ∃ (x : Addr) (a b : DL.D), ds = [.ptr x, a, b, .non] ∧ smB a = true ∧ VC a ∧ VC b ∧ ((nameT a) && (isIntT b)) = false ∧ (nameT a = false → E EN [(("value" : Str), a)] n) ∧ (nameT a = true → isIntT b = false → E EL [(("value" : Str), b)] n)
theorem mono_bLay {EN EL EC : Addr} : XMono (TBLay EN EL EC) := fun ds n K K' E E' hk he ⟨x, a, b, e, sa, va, vb, ne, q0, q1⟩ => ⟨x, a, b, e, sa, va, vb, ne, fun h0 => he _ _ _ (q0 h0), fun h0 h1 => he _ _ _ (q1 h0 h1)⟩
theorem bad_Lay {fC fN fL fNN fNL fNC fX : Addr} {fdC fdN fdL fdNN fdNL fdNC fdX : FuncData} {tN : Tok} (SV : SecV K mg) (MN : ErrF K mg "InvalidName" "value" "InvalidName.__init__" "ValueError" "ValueError.__new__" "ValueError.__init__" mroValueError sInvalidNameInit) (ML : ErrF K mg "InvalidLevel" "value" "InvalidLevel.__init__" "ValueError" "ValueError.__new__" "ValueError.__init__" mroValueError sInvalidLevelInit) (MC : ErrF K mg "NoColumn" "at" "NoColumn.__init__" "IndexError" "IndexError.__new__" "IndexError.__init__" mroIndexError sNoColumnInit) (T : Txt mg) (DCP : DefAt K mg "copied" sCopied ["value"] fC fdC) (DN : DefAt K mg "is_name" sIsName ["value"] fN fdN) (DL0 : DefAt K mg "is_level" sIsLevel ["value"] fL fdL) (DNN : DefAt K mg "need_name" sNeedName ["value"] fNN fdNN) (DNL : DefAt K mg "need_level" sNeedLevel ["value"] fNL fdNL) (DNC : DefAt K mg "need_column" sNeedColumn ["value"] fNC fdNC) (DIX : DefAt K mg "is_index" sIsIndex ["value", "count"] fX fdX) (mgN : mg "LONGEST_NAME" = some (.int 8 tN)) (o : KLay K mg) : FnOk P w K mg base (L2.CX P w) 14 o.fI o.fdI ["self", "rock", "level", "span"] (spX noMd (TBLay MN.C ML.C MC.C)) := by
  have GNNd := fun m => d_neednx (P := P) (w := w) (base := base) MN T DCP DN DNN mgN m
  have GNLd := fun m => d_needlx (P := P) (w := w) (base := base) ML T DCP DL0 DNL m
  have GNCd := fun m => d_needcx (P := P) (w := w) (base := base) SV MC DNC.F T DCP DIX DL0 m
  have sc : FnScope ["self", "rock", "level", "span"] ["self", "rock", "level", "span"] (defScope sLayI) := ⟨rfl, rfl, rfl, by decide +kernel, rfl, by decide +kernel, by decide +kernel⟩
  refine fn_okXD o.FI sc (fun ds n K E h => ?_) (fun cdv A outer s H E er hr => ?_)
  · obtain ⟨x, a, b, e, _⟩ := h
    rw [e]; rfl
  · have nd := sc.nd
    refine ⟨_, (ss_cons (s_exp (v_callX (er := fun C fs _ n => er C fs n) (takes_of rfl rfl rfl rfl) (GNNd _) mono_neednx (hr.mono (by decide)) (by rfl) DNN.M DNN.F.kp DNN.B (a_cons (vn 1) a_nil)))
    (ss_cons (s_exp (v_callX (er := fun C fs _ n => er C fs n) (takes_of rfl rfl rfl rfl) (GNLd _) mono_needlx (hr.mono (by decide)) (by rfl) DNL.M DNL.F.kp DNL.B (a_cons (vn 2) a_nil)))
    ss_never)), fun ds n K h => ?_⟩
    obtain ⟨x, a, b, e, sa, va, vb, ne, q0, q1⟩ := h
    subst e
    obtain ⟨tb, eb⟩ := vb.ty
    refine ⟨_, rfl, a, rfl, sa, va.c, (fun h0 => ⟨_, rfl, b, tb, rfl, eb, vb.c, (fun h1 => ?_), (fun z => q1 h0 z)⟩), (fun z => q0  z)⟩
    rw [h0, h1] at ne
    cases ne
def TJCut (EN EL EC : Addr) : TIX := fun ds K E => ∃ a b : DL.D, ds = [a, b, .non] ∧ smB a = true ∧ VC a ∧ VC b ∧ (nameT a = false → E EN [(("value" : Str), a)]) ∧ (nameT a = true → isIntT b = false → E EL [(("value" : Str), b)]) ∧ (nameT a = true → isIntT b = true → ∀ fs, K fs)
theorem mono_jCut {EN EL EC : Addr} : IXMono (TJCut EN EL EC) := fun ds K K' E E' hk he ⟨a, b, e, sa, va, vb, q0, q1, g⟩ => ⟨a, b, e, sa, va, vb, fun h0 => he _ _ (q0 h0), fun h0 h1 => he _ _ (q1 h0 h1), fun h0 h1 fs => hk _ (g h0 h1 fs)⟩
def TBCut (EN EL EC : Addr) : FX := fun ds n K E => ∃ (x : Addr) (a b : DL.D), ds = [.ptr x, a, b, .non] ∧ smB a = true ∧ VC a ∧ VC b ∧ ((nameT a) && (isIntT b)) = false ∧ (nameT a = false → E EN [(("value" : Str), a)] n) ∧ (nameT a = true → isIntT b = false → E EL [(("value" : Str), b)] n)
theorem mono_bCut {EN EL EC : Addr} : XMono (TBCut EN EL EC) := fun ds n K K' E E' hk he ⟨x, a, b, e, sa, va, vb, ne, q0, q1⟩ => ⟨x, a, b, e, sa, va, vb, ne, fun h0 => he _ _ _ (q0 h0), fun h0 h1 => he _ _ _ (q1 h0 h1)⟩
theorem bad_Cut {fC fN fL fNN fNL fNC fX : Addr} {fdC fdN fdL fdNN fdNL fdNC fdX : FuncData} {tN : Tok} (SV : SecV K mg) (MN : ErrF K mg "InvalidName" "value" "InvalidName.__init__" "ValueError" "ValueError.__new__" "ValueError.__init__" mroValueError sInvalidNameInit) (ML : ErrF K mg "InvalidLevel" "value" "InvalidLevel.__init__" "ValueError" "ValueError.__new__" "ValueError.__init__" mroValueError sInvalidLevelInit) (MC : ErrF K mg "NoColumn" "at" "NoColumn.__init__" "IndexError" "IndexError.__new__" "IndexError.__init__" mroIndexError sNoColumnInit) (T : Txt mg) (DCP : DefAt K mg "copied" sCopied ["value"] fC fdC) (DN : DefAt K mg "is_name" sIsName ["value"] fN fdN) (DL0 : DefAt K mg "is_level" sIsLevel ["value"] fL fdL) (DNN : DefAt K mg "need_name" sNeedName ["value"] fNN fdNN) (DNL : DefAt K mg "need_level" sNeedLevel ["value"] fNL fdNL) (DNC : DefAt K mg "need_column" sNeedColumn ["value"] fNC fdNC) (DIX : DefAt K mg "is_index" sIsIndex ["value", "count"] fX fdX) (mgN : mg "LONGEST_NAME" = some (.int 8 tN)) (o : KCut K mg) : FnOk P w K mg base (L2.CX P w) 14 o.fI o.fdI ["self", "name", "level", "span"] (spX noMd (TBCut MN.C ML.C MC.C)) := by
  have GNNd := fun m => d_neednx (P := P) (w := w) (base := base) MN T DCP DN DNN mgN m
  have GNLd := fun m => d_needlx (P := P) (w := w) (base := base) ML T DCP DL0 DNL m
  have GNCd := fun m => d_needcx (P := P) (w := w) (base := base) SV MC DNC.F T DCP DIX DL0 m
  have sc : FnScope ["self", "name", "level", "span"] ["self", "name", "level", "span"] (defScope sCutI) := ⟨rfl, rfl, rfl, by decide +kernel, rfl, by decide +kernel, by decide +kernel⟩
  refine fn_okXD o.FI sc (fun ds n K E h => ?_) (fun cdv A outer s H E er hr => ?_)
  · obtain ⟨x, a, b, e, _⟩ := h
    rw [e]; rfl
  · have nd := sc.nd
    refine ⟨_, (ss_cons (s_exp (v_callX (er := fun C fs _ n => er C fs n) (takes_of rfl rfl rfl rfl) (GNNd _) mono_neednx (hr.mono (by decide)) (by rfl) DNN.M DNN.F.kp DNN.B (a_cons (vn 1) a_nil)))
    (ss_cons (s_exp (v_callX (er := fun C fs _ n => er C fs n) (takes_of rfl rfl rfl rfl) (GNLd _) mono_needlx (hr.mono (by decide)) (by rfl) DNL.M DNL.F.kp DNL.B (a_cons (vn 2) a_nil)))
    ss_never)), fun ds n K h => ?_⟩
    obtain ⟨x, a, b, e, sa, va, vb, ne, q0, q1⟩ := h
    subst e
    obtain ⟨tb, eb⟩ := vb.ty
    refine ⟨_, rfl, a, rfl, sa, va.c, (fun h0 => ⟨_, rfl, b, tb, rfl, eb, vb.c, (fun h1 => ?_), (fun z => q1 h0 z)⟩), (fun z => q0  z)⟩
    rw [h0, h1] at ne
    cases ne
def TJDike (EN EL EC : Addr) : TIX := fun ds K E => ∃ a k b : DL.D, ds = [a, k, b] ∧ smB a = true ∧ VC a ∧ VC k ∧ VC b ∧ (nameT a = false → E EN [(("value" : Str), a)]) ∧ (nameT a = true → idxB k 12 = false → E EC [(("at" : Str), k)]) ∧ (nameT a = true → idxB k 12 = true → isIntT b = false → E EL [(("value" : Str), b)]) ∧ (nameT a = true → idxB k 12 = true → isIntT b = true → ∀ fs, K fs)
theorem mono_jDike {EN EL EC : Addr} : IXMono (TJDike EN EL EC) := fun ds K K' E E' hk he ⟨a, k, b, e, sa, va, vk, vb, q0, q1, q2, g⟩ => ⟨a, k, b, e, sa, va, vk, vb, fun h0 => he _ _ (q0 h0), fun h0 h1 => he _ _ (q1 h0 h1), fun h0 h1 h2 => he _ _ (q2 h0 h1 h2), fun h0 h1 h2 fs => hk _ (g h0 h1 h2 fs)⟩
def TBDike (EN EL EC : Addr) : FX := fun ds n K E => ∃ (x : Addr) (a k b : DL.D), ds = [.ptr x, a, k, b] ∧ smB a = true ∧ VC a ∧ VC k ∧ VC b ∧ ((nameT a) && (idxB k 12) && (isIntT b)) = false ∧ (nameT a = false → E EN [(("value" : Str), a)] n) ∧ (nameT a = true → idxB k 12 = false → E EC [(("at" : Str), k)] n) ∧ (nameT a = true → idxB k 12 = true → isIntT b = false → E EL [(("value" : Str), b)] n)
theorem mono_bDike {EN EL EC : Addr} : XMono (TBDike EN EL EC) := fun ds n K K' E E' hk he ⟨x, a, k, b, e, sa, va, vk, vb, ne, q0, q1, q2⟩ => ⟨x, a, k, b, e, sa, va, vk, vb, ne, fun h0 => he _ _ _ (q0 h0), fun h0 h1 => he _ _ _ (q1 h0 h1), fun h0 h1 h2 => he _ _ _ (q2 h0 h1 h2)⟩
theorem bad_Dike {fC fN fL fNN fNL fNC fX : Addr} {fdC fdN fdL fdNN fdNL fdNC fdX : FuncData} {tN : Tok} (SV : SecV K mg) (MN : ErrF K mg "InvalidName" "value" "InvalidName.__init__" "ValueError" "ValueError.__new__" "ValueError.__init__" mroValueError sInvalidNameInit) (ML : ErrF K mg "InvalidLevel" "value" "InvalidLevel.__init__" "ValueError" "ValueError.__new__" "ValueError.__init__" mroValueError sInvalidLevelInit) (MC : ErrF K mg "NoColumn" "at" "NoColumn.__init__" "IndexError" "IndexError.__new__" "IndexError.__init__" mroIndexError sNoColumnInit) (T : Txt mg) (DCP : DefAt K mg "copied" sCopied ["value"] fC fdC) (DN : DefAt K mg "is_name" sIsName ["value"] fN fdN) (DL0 : DefAt K mg "is_level" sIsLevel ["value"] fL fdL) (DNN : DefAt K mg "need_name" sNeedName ["value"] fNN fdNN) (DNL : DefAt K mg "need_level" sNeedLevel ["value"] fNL fdNL) (DNC : DefAt K mg "need_column" sNeedColumn ["value"] fNC fdNC) (DIX : DefAt K mg "is_index" sIsIndex ["value", "count"] fX fdX) (mgN : mg "LONGEST_NAME" = some (.int 8 tN)) (o : KDike K mg) : FnOk P w K mg base (L2.CX P w) 14 o.fI o.fdI ["self", "rock", "at", "level"] (spX noMd (TBDike MN.C ML.C MC.C)) := by
  have GNNd := fun m => d_neednx (P := P) (w := w) (base := base) MN T DCP DN DNN mgN m
  have GNLd := fun m => d_needlx (P := P) (w := w) (base := base) ML T DCP DL0 DNL m
  have GNCd := fun m => d_needcx (P := P) (w := w) (base := base) SV MC DNC.F T DCP DIX DL0 m
  have sc : FnScope ["self", "rock", "at", "level"] ["self", "rock", "at", "level"] (defScope sDikeI) := ⟨rfl, rfl, rfl, by decide +kernel, rfl, by decide +kernel, by decide +kernel⟩
  refine fn_okXD o.FI sc (fun ds n K E h => ?_) (fun cdv A outer s H E er hr => ?_)
  · obtain ⟨x, a, k, b, e, _⟩ := h
    rw [e]; rfl
  · have nd := sc.nd
    refine ⟨_, (ss_cons (s_exp (v_callX (er := fun C fs _ n => er C fs n) (takes_of rfl rfl rfl rfl) (GNNd _) mono_neednx (hr.mono (by decide)) (by rfl) DNN.M DNN.F.kp DNN.B (a_cons (vn 1) a_nil)))
    (ss_cons (s_exp (v_callX (er := fun C fs _ n => er C fs n) (takes_of rfl rfl rfl rfl) (GNCd _) mono_needcx (hr.mono (by decide)) (by rfl) DNC.M DNC.F.kp DNC.B (a_cons (vn 2) a_nil)))
    (ss_cons (s_exp (v_callX (er := fun C fs _ n => er C fs n) (takes_of rfl rfl rfl rfl) (GNLd _) mono_needlx (hr.mono (by decide)) (by rfl) DNL.M DNL.F.kp DNL.B (a_cons (vn 3) a_nil)))
    ss_never))), fun ds n K h => ?_⟩
    obtain ⟨x, a, k, b, e, sa, va, vk, vb, ne, q0, q1, q2⟩ := h
    subst e
    obtain ⟨tk, ek⟩ := vk.ty
    obtain ⟨tb, eb⟩ := vb.ty
    refine ⟨_, rfl, a, rfl, sa, va.c, (fun h0 => ⟨_, rfl, k, tk, rfl, ek, vk.c, (fun h1 => ⟨_, rfl, b, tb, rfl, eb, vb.c, (fun h2 => ?_), (fun z => q2 h0 h1 z)⟩), (fun z => q1 h0 z)⟩), (fun z => q0  z)⟩
    rw [h0, h1, h2] at ne
    cases ne
def TJFault (EN EL EC : Addr) : TIX := fun ds K E => ∃ k b : DL.D, ds = [k, b] ∧ VC k ∧ VC b ∧ (idxB k 12 = false → E EC [(("at" : Str), k)]) ∧ (idxB k 12 = true → isIntT b = false → E EL [(("value" : Str), b)]) ∧ (idxB k 12 = true → isIntT b = true → ∀ fs, K fs)
theorem mono_jFault {EN EL EC : Addr} : IXMono (TJFault EN EL EC) := fun ds K K' E E' hk he ⟨k, b, e, vk, vb, q0, q1, g⟩ => ⟨k, b, e, vk, vb, fun h0 => he _ _ (q0 h0), fun h0 h1 => he _ _ (q1 h0 h1), fun h0 h1 fs => hk _ (g h0 h1 fs)⟩
def TBFault (EN EL EC : Addr) : FX := fun ds n K E => ∃ (x : Addr) (k b : DL.D), ds = [.ptr x, k, b] ∧ VC k ∧ VC b ∧ ((idxB k 12) && (isIntT b)) = false ∧ (idxB k 12 = false → E EC [(("at" : Str), k)] n) ∧ (idxB k 12 = true → isIntT b = false → E EL [(("value" : Str), b)] n)
theorem mono_bFault {EN EL EC : Addr} : XMono (TBFault EN EL EC) := fun ds n K K' E E' hk he ⟨x, k, b, e, vk, vb, ne, q0, q1⟩ => ⟨x, k, b, e, vk, vb, ne, fun h0 => he _ _ _ (q0 h0), fun h0 h1 => he _ _ _ (q1 h0 h1)⟩
theorem bad_Fault {fC fN fL fNN fNL fNC fX : Addr} {fdC fdN fdL fdNN fdNL fdNC fdX : FuncData} {tN : Tok} (SV : SecV K mg) (MN : ErrF K mg "InvalidName" "value" "InvalidName.__init__" "ValueError" "ValueError.__new__" "ValueError.__init__" mroValueError sInvalidNameInit) (ML : ErrF K mg "InvalidLevel" "value" "InvalidLevel.__init__" "ValueError" "ValueError.__new__" "ValueError.__init__" mroValueError sInvalidLevelInit) (MC : ErrF K mg "NoColumn" "at" "NoColumn.__init__" "IndexError" "IndexError.__new__" "IndexError.__init__" mroIndexError sNoColumnInit) (T : Txt mg) (DCP : DefAt K mg "copied" sCopied ["value"] fC fdC) (DN : DefAt K mg "is_name" sIsName ["value"] fN fdN) (DL0 : DefAt K mg "is_level" sIsLevel ["value"] fL fdL) (DNN : DefAt K mg "need_name" sNeedName ["value"] fNN fdNN) (DNL : DefAt K mg "need_level" sNeedLevel ["value"] fNL fdNL) (DNC : DefAt K mg "need_column" sNeedColumn ["value"] fNC fdNC) (DIX : DefAt K mg "is_index" sIsIndex ["value", "count"] fX fdX) (mgN : mg "LONGEST_NAME" = some (.int 8 tN)) (o : KFault K mg) : FnOk P w K mg base (L2.CX P w) 14 o.fI o.fdI ["self", "at", "throw"] (spX noMd (TBFault MN.C ML.C MC.C)) := by
  have GNNd := fun m => d_neednx (P := P) (w := w) (base := base) MN T DCP DN DNN mgN m
  have GNLd := fun m => d_needlx (P := P) (w := w) (base := base) ML T DCP DL0 DNL m
  have GNCd := fun m => d_needcx (P := P) (w := w) (base := base) SV MC DNC.F T DCP DIX DL0 m
  have sc : FnScope ["self", "at", "throw"] ["self", "at", "throw"] (defScope sFaultI) := ⟨rfl, rfl, rfl, by decide +kernel, rfl, by decide +kernel, by decide +kernel⟩
  refine fn_okXD o.FI sc (fun ds n K E h => ?_) (fun cdv A outer s H E er hr => ?_)
  · obtain ⟨x, k, b, e, _⟩ := h
    rw [e]; rfl
  · have nd := sc.nd
    refine ⟨_, (ss_cons (s_exp (v_callX (er := fun C fs _ n => er C fs n) (takes_of rfl rfl rfl rfl) (GNCd _) mono_needcx (hr.mono (by decide)) (by rfl) DNC.M DNC.F.kp DNC.B (a_cons (vn 1) a_nil)))
    (ss_cons (s_exp (v_callX (er := fun C fs _ n => er C fs n) (takes_of rfl rfl rfl rfl) (GNLd _) mono_needlx (hr.mono (by decide)) (by rfl) DNL.M DNL.F.kp DNL.B (a_cons (vn 2) a_nil)))
    ss_never)), fun ds n K h => ?_⟩
    obtain ⟨x, k, b, e, vk, vb, ne, q0, q1⟩ := h
    subst e
    obtain ⟨tk, ek⟩ := vk.ty
    obtain ⟨tb, eb⟩ := vb.ty
    refine ⟨_, rfl, k, tk, rfl, ek, vk.c, (fun h0 => ⟨_, rfl, b, tb, rfl, eb, vb.c, (fun h1 => ?_), (fun z => q1 h0 z)⟩), (fun z => q0  z)⟩
    rw [h0, h1] at ne
    cases ne
def TJTilt (EN EL EC : Addr) : TIX := fun ds K E => ∃ b : DL.D, ds = [b] ∧ VC b ∧ (isIntT b = false → E EL [(("value" : Str), b)]) ∧ (isIntT b = true → ∀ fs, K fs)
theorem mono_jTilt {EN EL EC : Addr} : IXMono (TJTilt EN EL EC) := fun ds K K' E E' hk he ⟨b, e, vb, q0, g⟩ => ⟨b, e, vb, fun h0 => he _ _ (q0 h0), fun h0 fs => hk _ (g h0 fs)⟩
def TBTilt (EN EL EC : Addr) : FX := fun ds n K E => ∃ (x : Addr) (b : DL.D), ds = [.ptr x, b] ∧ VC b ∧ ((isIntT b)) = false ∧ (isIntT b = false → E EL [(("value" : Str), b)] n)
theorem mono_bTilt {EN EL EC : Addr} : XMono (TBTilt EN EL EC) := fun ds n K K' E E' hk he ⟨x, b, e, vb, ne, q0⟩ => ⟨x, b, e, vb, ne, fun h0 => he _ _ _ (q0 h0)⟩
theorem bad_Tilt {fC fN fL fNN fNL fNC fX : Addr} {fdC fdN fdL fdNN fdNL fdNC fdX : FuncData} {tN : Tok} (SV : SecV K mg) (MN : ErrF K mg "InvalidName" "value" "InvalidName.__init__" "ValueError" "ValueError.__new__" "ValueError.__init__" mroValueError sInvalidNameInit) (ML : ErrF K mg "InvalidLevel" "value" "InvalidLevel.__init__" "ValueError" "ValueError.__new__" "ValueError.__init__" mroValueError sInvalidLevelInit) (MC : ErrF K mg "NoColumn" "at" "NoColumn.__init__" "IndexError" "IndexError.__new__" "IndexError.__init__" mroIndexError sNoColumnInit) (T : Txt mg) (DCP : DefAt K mg "copied" sCopied ["value"] fC fdC) (DN : DefAt K mg "is_name" sIsName ["value"] fN fdN) (DL0 : DefAt K mg "is_level" sIsLevel ["value"] fL fdL) (DNN : DefAt K mg "need_name" sNeedName ["value"] fNN fdNN) (DNL : DefAt K mg "need_level" sNeedLevel ["value"] fNL fdNL) (DNC : DefAt K mg "need_column" sNeedColumn ["value"] fNC fdNC) (DIX : DefAt K mg "is_index" sIsIndex ["value", "count"] fX fdX) (mgN : mg "LONGEST_NAME" = some (.int 8 tN)) (o : KTilt K mg) : FnOk P w K mg base (L2.CX P w) 14 o.fI o.fdI ["self", "slope"] (spX noMd (TBTilt MN.C ML.C MC.C)) := by
  have GNNd := fun m => d_neednx (P := P) (w := w) (base := base) MN T DCP DN DNN mgN m
  have GNLd := fun m => d_needlx (P := P) (w := w) (base := base) ML T DCP DL0 DNL m
  have GNCd := fun m => d_needcx (P := P) (w := w) (base := base) SV MC DNC.F T DCP DIX DL0 m
  have sc : FnScope ["self", "slope"] ["self", "slope"] (defScope sTiltI) := ⟨rfl, rfl, rfl, by decide +kernel, rfl, by decide +kernel, by decide +kernel⟩
  refine fn_okXD o.FI sc (fun ds n K E h => ?_) (fun cdv A outer s H E er hr => ?_)
  · obtain ⟨x, b, e, _⟩ := h
    rw [e]; rfl
  · have nd := sc.nd
    refine ⟨_, (ss_cons (s_exp (v_callX (er := fun C fs _ n => er C fs n) (takes_of rfl rfl rfl rfl) (GNLd _) mono_needlx (hr.mono (by decide)) (by rfl) DNL.M DNL.F.kp DNL.B (a_cons (vn 1) a_nil)))
    ss_never), fun ds n K h => ?_⟩
    obtain ⟨x, b, e, vb, ne, q0⟩ := h
    subst e
    obtain ⟨tb, eb⟩ := vb.ty
    refine ⟨_, rfl, b, tb, rfl, eb, vb.c, (fun h0 => ?_), (fun z => q0  z)⟩
    rw [h0] at ne
    cases ne
end
end Rk

set_option Elab.async false
set_option linter.all false
set_option maxRecDepth 100000
set_option maxHeartbeats 1000000
namespace Rk
open PySem L2 DL
section
variable {P : Program} {w : World} {K : PySem.W.Frag} {mg : Str → Option Value} {base : Heap}
/-! ### C(..) with any values -/
theorem idx_12 {d : DL.D} (h : idxB d 12 = true) : ∃ i : Int, d = .int i ∧ 0 ≤ i ∧ i < 12 := by
  obtain ⟨i, e, lt⟩ := idx_int h
  exact ⟨i, e, by omega, by omega⟩
theorem jx_Lay {fC fN fL fNN fNL fNC fX : Addr} {fdC fdN fdL fdNN fdNL fdNC fdX : FuncData} {tN : Tok} (SV : SecV K mg) (MN : ErrF K mg "InvalidName" "value" "InvalidName.__init__" "ValueError" "ValueError.__new__" "ValueError.__init__" mroValueError sInvalidNameInit) (ML : ErrF K mg "InvalidLevel" "value" "InvalidLevel.__init__" "ValueError" "ValueError.__new__" "ValueError.__init__" mroValueError sInvalidLevelInit) (MC : ErrF K mg "NoColumn" "at" "NoColumn.__init__" "IndexError" "IndexError.__new__" "IndexError.__init__" mroIndexError sNoColumnInit) (T : Txt mg) (DCP : DefAt K mg "copied" sCopied ["value"] fC fdC) (DN : DefAt K mg "is_name" sIsName ["value"] fN fdN) (DL0 : DefAt K mg "is_level" sIsLevel ["value"] fL fdL) (DNN : DefAt K mg "need_name" sNeedName ["value"] fNN fdNN) (DNL : DefAt K mg "need_level" sNeedLevel ["value"] fNL fdNL) (DNC : DefAt K mg "need_column" sNeedColumn ["value"] fNC fdNC) (DIX : DefAt K mg "is_index" sIsIndex ["value", "count"] fX fdX) (mgN : mg "LONGEST_NAME" = some (.int 8 tN)) (SD : SmD P w K mg base) (o : KLay K mg) : FnOk P w K mg base (L2.CX P w) 14 o.fI o.fdI ["self", "rock", "level", "span"] (spJX o.C (TJLay MN.C ML.C MC.C)) := by
  refine jx_or (d_iLay (P := P) (w := w) (base := base) o T SD) (bad_Lay (P := P) (w := w) (base := base) SV MN ML MC T DCP DN DL0 DNN DNL DNC DIX mgN o) (by decide) (by decide) mono_bLay (fun ds K E h => ?_) mono_iLay
  obtain ⟨a, b, e, sa, va, vb, q0, q1, g⟩ := h
  subst e
  cases hw : ((nameT a) && (isIntT b)) with
  | false => exact .inr fun x => ⟨x, a, b, rfl, sa, va, vb, hw, q0, q1⟩
  | true =>
    simp only [Bool.and_eq_true] at hw
    obtain ⟨h1, h2⟩ := hw
    have h1' := h1
    have h2' := h2
    obtain ⟨z, ez, hz⟩ := wordT h1
    obtain ⟨i, ei⟩ := isInt_of h2
    subst ez
    subst ei
    exact .inl ⟨z, i, rfl, hz, g h1' h2' _⟩
theorem jx_Cut {fC fN fL fNN fNL fNC fX : Addr} {fdC fdN fdL fdNN fdNL fdNC fdX : FuncData} {tN : Tok} (SV : SecV K mg) (MN : ErrF K mg "InvalidName" "value" "InvalidName.__init__" "ValueError" "ValueError.__new__" "ValueError.__init__" mroValueError sInvalidNameInit) (ML : ErrF K mg "InvalidLevel" "value" "InvalidLevel.__init__" "ValueError" "ValueError.__new__" "ValueError.__init__" mroValueError sInvalidLevelInit) (MC : ErrF K mg "NoColumn" "at" "NoColumn.__init__" "IndexError" "IndexError.__new__" "IndexError.__init__" mroIndexError sNoColumnInit) (T : Txt mg) (DCP : DefAt K mg "copied" sCopied ["value"] fC fdC) (DN : DefAt K mg "is_name" sIsName ["value"] fN fdN) (DL0 : DefAt K mg "is_level" sIsLevel ["value"] fL fdL) (DNN : DefAt K mg "need_name" sNeedName ["value"] fNN fdNN) (DNL : DefAt K mg "need_level" sNeedLevel ["value"] fNL fdNL) (DNC : DefAt K mg "need_column" sNeedColumn ["value"] fNC fdNC) (DIX : DefAt K mg "is_index" sIsIndex ["value", "count"] fX fdX) (mgN : mg "LONGEST_NAME" = some (.int 8 tN)) (SD : SmD P w K mg base) (o : KCut K mg) : FnOk P w K mg base (L2.CX P w) 14 o.fI o.fdI ["self", "name", "level", "span"] (spJX o.C (TJCut MN.C ML.C MC.C)) := by
  refine jx_or (d_iCut (P := P) (w := w) (base := base) o T SD) (bad_Cut (P := P) (w := w) (base := base) SV MN ML MC T DCP DN DL0 DNN DNL DNC DIX mgN o) (by decide) (by decide) mono_bCut (fun ds K E h => ?_) mono_iCut
  obtain ⟨a, b, e, sa, va, vb, q0, q1, g⟩ := h
  subst e
  cases hw : ((nameT a) && (isIntT b)) with
  | false => exact .inr fun x => ⟨x, a, b, rfl, sa, va, vb, hw, q0, q1⟩
  | true =>
    simp only [Bool.and_eq_true] at hw
    obtain ⟨h1, h2⟩ := hw
    have h1' := h1
    have h2' := h2
    obtain ⟨z, ez, hz⟩ := wordT h1
    obtain ⟨i, ei⟩ := isInt_of h2
    subst ez
    subst ei
    exact .inl ⟨z, i, rfl, hz, g h1' h2' _⟩
theorem jx_Dike {fC fN fL fNN fNL fNC fX : Addr} {fdC fdN fdL fdNN fdNL fdNC fdX : FuncData} {tN : Tok} (SV : SecV K mg) (MN : ErrF K mg "InvalidName" "value" "InvalidName.__init__" "ValueError" "ValueError.__new__" "ValueError.__init__" mroValueError sInvalidNameInit) (ML : ErrF K mg "InvalidLevel" "value" "InvalidLevel.__init__" "ValueError" "ValueError.__new__" "ValueError.__init__" mroValueError sInvalidLevelInit) (MC : ErrF K mg "NoColumn" "at" "NoColumn.__init__" "IndexError" "IndexError.__new__" "IndexError.__init__" mroIndexError sNoColumnInit) (T : Txt mg) (DCP : DefAt K mg "copied" sCopied ["value"] fC fdC) (DN : DefAt K mg "is_name" sIsName ["value"] fN fdN) (DL0 : DefAt K mg "is_level" sIsLevel ["value"] fL fdL) (DNN : DefAt K mg "need_name" sNeedName ["value"] fNN fdNN) (DNL : DefAt K mg "need_level" sNeedLevel ["value"] fNL fdNL) (DNC : DefAt K mg "need_column" sNeedColumn ["value"] fNC fdNC) (DIX : DefAt K mg "is_index" sIsIndex ["value", "count"] fX fdX) (mgN : mg "LONGEST_NAME" = some (.int 8 tN)) (SD : SmD P w K mg base) (o : KDike K mg) : FnOk P w K mg base (L2.CX P w) 14 o.fI o.fdI ["self", "rock", "at", "level"] (spJX o.C (TJDike MN.C ML.C MC.C)) := by
  refine jx_or (d_iDike (P := P) (w := w) (base := base) o T SD) (bad_Dike (P := P) (w := w) (base := base) SV MN ML MC T DCP DN DL0 DNN DNL DNC DIX mgN o) (by decide) (by decide) mono_bDike (fun ds K E h => ?_) mono_iDike
  obtain ⟨a, k, b, e, sa, va, vk, vb, q0, q1, q2, g⟩ := h
  subst e
  cases hw : ((nameT a) && (idxB k 12) && (isIntT b)) with
  | false => exact .inr fun x => ⟨x, a, k, b, rfl, sa, va, vk, vb, hw, q0, q1, q2⟩
  | true =>
    simp only [Bool.and_eq_true] at hw
    obtain ⟨⟨h1, h3⟩, h2⟩ := hw
    have h1' := h1
    have h2' := h2
    have h3' := h3
    obtain ⟨z, ez, hz⟩ := wordT h1
    obtain ⟨i, ei⟩ := isInt_of h2
    obtain ⟨j, ej, j0, j1⟩ := idx_12 h3
    subst ez
    subst ei
    subst ej
    exact .inl ⟨z, j, i, rfl, hz, j0, j1, g h1' h3' h2' _⟩
theorem jx_Fault {fC fN fL fNN fNL fNC fX : Addr} {fdC fdN fdL fdNN fdNL fdNC fdX : FuncData} {tN : Tok} (SV : SecV K mg) (MN : ErrF K mg "InvalidName" "value" "InvalidName.__init__" "ValueError" "ValueError.__new__" "ValueError.__init__" mroValueError sInvalidNameInit) (ML : ErrF K mg "InvalidLevel" "value" "InvalidLevel.__init__" "ValueError" "ValueError.__new__" "ValueError.__init__" mroValueError sInvalidLevelInit) (MC : ErrF K mg "NoColumn" "at" "NoColumn.__init__" "IndexError" "IndexError.__new__" "IndexError.__init__" mroIndexError sNoColumnInit) (T : Txt mg) (DCP : DefAt K mg "copied" sCopied ["value"] fC fdC) (DN : DefAt K mg "is_name" sIsName ["value"] fN fdN) (DL0 : DefAt K mg "is_level" sIsLevel ["value"] fL fdL) (DNN : DefAt K mg "need_name" sNeedName ["value"] fNN fdNN) (DNL : DefAt K mg "need_level" sNeedLevel ["value"] fNL fdNL) (DNC : DefAt K mg "need_column" sNeedColumn ["value"] fNC fdNC) (DIX : DefAt K mg "is_index" sIsIndex ["value", "count"] fX fdX) (mgN : mg "LONGEST_NAME" = some (.int 8 tN)) (SD : SmD P w K mg base) (o : KFault K mg) : FnOk P w K mg base (L2.CX P w) 14 o.fI o.fdI ["self", "at", "throw"] (spJX o.C (TJFault MN.C ML.C MC.C)) := by
  refine jx_or (d_iFault (P := P) (w := w) (base := base) o T SD) (bad_Fault (P := P) (w := w) (base := base) SV MN ML MC T DCP DN DL0 DNN DNL DNC DIX mgN o) (by decide) (by decide) mono_bFault (fun ds K E h => ?_) mono_iFault
  obtain ⟨k, b, e, vk, vb, q0, q1, g⟩ := h
  subst e
  cases hw : ((idxB k 12) && (isIntT b)) with
  | false => exact .inr fun x => ⟨x, k, b, rfl, vk, vb, hw, q0, q1⟩
  | true =>
    simp only [Bool.and_eq_true] at hw
    obtain ⟨h3, h2⟩ := hw
    have h2' := h2
    have h3' := h3
    obtain ⟨i, ei⟩ := isInt_of h2
    obtain ⟨j, ej, j0, j1⟩ := idx_12 h3
    subst ei
    subst ej
    exact .inl ⟨j, i, rfl, j0, j1, g h3' h2' _⟩
theorem jx_Tilt {fC fN fL fNN fNL fNC fX : Addr} {fdC fdN fdL fdNN fdNL fdNC fdX : FuncData} {tN : Tok} (SV : SecV K mg) (MN : ErrF K mg "InvalidName" "value" "InvalidName.__init__" "ValueError" "ValueError.__new__" "ValueError.__init__" mroValueError sInvalidNameInit) (ML : ErrF K mg "InvalidLevel" "value" "InvalidLevel.__init__" "ValueError" "ValueError.__new__" "ValueError.__init__" mroValueError sInvalidLevelInit) (MC : ErrF K mg "NoColumn" "at" "NoColumn.__init__" "IndexError" "IndexError.__new__" "IndexError.__init__" mroIndexError sNoColumnInit) (T : Txt mg) (DCP : DefAt K mg "copied" sCopied ["value"] fC fdC) (DN : DefAt K mg "is_name" sIsName ["value"] fN fdN) (DL0 : DefAt K mg "is_level" sIsLevel ["value"] fL fdL) (DNN : DefAt K mg "need_name" sNeedName ["value"] fNN fdNN) (DNL : DefAt K mg "need_level" sNeedLevel ["value"] fNL fdNL) (DNC : DefAt K mg "need_column" sNeedColumn ["value"] fNC fdNC) (DIX : DefAt K mg "is_index" sIsIndex ["value", "count"] fX fdX) (mgN : mg "LONGEST_NAME" = some (.int 8 tN)) (SD : SmD P w K mg base) (o : KTilt K mg) : FnOk P w K mg base (L2.CX P w) 14 o.fI o.fdI ["self", "slope"] (spJX o.C (TJTilt MN.C ML.C MC.C)) := by
  refine jx_or (d_iTilt (P := P) (w := w) (base := base) o T SD) (bad_Tilt (P := P) (w := w) (base := base) SV MN ML MC T DCP DN DL0 DNN DNL DNC DIX mgN o) (by decide) (by decide) mono_bTilt (fun ds K E h => ?_) mono_iTilt
  obtain ⟨b, e, vb, q0, g⟩ := h
  subst e
  cases hw : ((isIntT b)) with
  | false => exact .inr fun x => ⟨x, b, rfl, vb, hw, q0⟩
  | true =>
    have h2' := hw
    obtain ⟨i, ei⟩ := isInt_of hw
    subst ei
    exact .inl ⟨i, rfl, g h2' _⟩
end
end Rk

set_option Elab.async false
set_option linter.all false
set_option maxRecDepth 100000
set_option maxHeartbeats 1000000
namespace Rk
open PySem L2 DL
section
variable {P : Program} {w : World} {K : PySem.W.Frag} {mg : Str → Option Value} {base : Heap}
/-! ### Lift(..) with any value -/
def seqD : DL.D → Option (List DL.D)
  | .lst l => some l
  | .tup l => some l
  | _ => none
def badI (l : List DL.D) : Option DL.D := l.find? fun x => !isIntT x
def TJLift (EL EW : Addr) : TIX := fun ds K E => ∃ v : DL.D, ds = [v] ∧ VC v ∧ (∀ l, seqD v = some l → l.length ≤ 900 ∧ ∀ x ∈ l, VC x) ∧ (seqD v = none → E EL [(("value" : Str), v)]) ∧ (∀ l, seqD v = some l → widB l.length = false → E EW [(("width" : Str), .int l.length)]) ∧ (∀ l y, seqD v = some l → widB l.length = true → badI l = some y → E EL [(("value" : Str), y)]) ∧ (∀ l, seqD v = some l → widB l.length = true → badI l = none → ∀ fs, K fs)
theorem mono_jLift {EL EW : Addr} : IXMono (TJLift EL EW) := fun ds K K' E E' hk he ⟨v, e, vv, vl, q0, q1, q2, g⟩ => ⟨v, e, vv, vl, fun h => he _ _ (q0 h), fun l h h' => he _ _ (q1 l h h'), fun l y h h' h2 => he _ _ (q2 l y h h' h2), fun l h h' h2 fs => hk _ (g l h h' h2 fs)⟩
def TBLift (EL EW : Addr) : FX := fun ds n K E => ∃ (x : Addr) (v : DL.D), ds = [.ptr x, v] ∧ VC v ∧ (∀ l, seqD v = some l → l.length ≤ 900 ∧ ∀ x ∈ l, VC x) ∧ (∀ l, seqD v = some l → widB l.length = true → badI l = none → False) ∧ (seqD v = none → E EL [(("value" : Str), v)] n) ∧ (∀ l, seqD v = some l → widB l.length = false → E EW [(("width" : Str), .int l.length)] n) ∧ (∀ l y, seqD v = some l → widB l.length = true → badI l = some y → E EL [(("value" : Str), y)] n)
theorem mono_bLift {EL EW : Addr} : XMono (TBLift EL EW) := fun ds n K K' E E' hk he ⟨x, v, e, vv, vl, ne, q0, q1, q2⟩ => ⟨x, v, e, vv, vl, ne, fun h => he _ _ _ (q0 h), fun l h h' => he _ _ _ (q1 l h h'), fun l y h h' h2 => he _ _ _ (q2 l y h h' h2)⟩
theorem kit_seq {d : DL.D} {t : String} (h : tyN d = some t) : ∃ b1 b2, kitB t "list" = some b1 ∧ kitB t "tuple" = some b2 ∧ (b1 || b2) = (seqD d).isSome := by
  cases d with
  | lst l => cases h; exact ⟨true, false, by decide +kernel, by decide +kernel, rfl⟩
  | tup l => cases h; exact ⟨false, true, by decide +kernel, by decide +kernel, rfl⟩
  | non => cases h; exact ⟨false, false, by decide +kernel, by decide +kernel, rfl⟩
  | bl b => cases h; exact ⟨false, false, by decide +kernel, by decide +kernel, rfl⟩
  | int i => cases h; exact ⟨false, false, by decide +kernel, by decide +kernel, rfl⟩
  | str x => cases h; exact ⟨false, false, by decide +kernel, by decide +kernel, rfl⟩
  | dic l => cases h; exact ⟨false, false, by decide +kernel, by decide +kernel, rfl⟩
  | _ => cases h
theorem seq_or {d : DL.D} {l : List DL.D} (h : seqD d = some l) : d = .lst l ∨ d = .tup l := by
  cases d with
  | lst k => cases h; exact .inl rfl
  | tup k => cases h; exact .inr rfl
  | _ => cases h
theorem seq_or1 {d : DL.D} {l : List DL.D} (h : seqD d = some l) : [d] = [.lst l] ∨ [d] = [.tup l] := (seq_or h).imp (fun e => by rw [e]) fun e => by rw [e]
theorem bad_Lift {fC fL fNL fWD : Addr} {fdC fdL fdNL fdWD : FuncData} (SV : SecV K mg) (ML : ErrF K mg "InvalidLevel" "value" "InvalidLevel.__init__" "ValueError" "ValueError.__new__" "ValueError.__init__" mroValueError sInvalidLevelInit) (MW : ErrF K mg "WrongWidth" "width" "WrongWidth.__init__" "ValueError" "ValueError.__new__" "ValueError.__init__" mroValueError sWrongWidthInit) (T : Txt mg) (DCP : DefAt K mg "copied" sCopied ["value"] fC fdC) (DL0 : DefAt K mg "is_level" sIsLevel ["value"] fL fdL) (DNL : DefAt K mg "need_level" sNeedLevel ["value"] fNL fdNL) (DWD : DefAt K mg "is_width" sIsWidth ["value"] fWD fdWD) (o : KLift K mg) : FnOk P w K mg base (L2.CX P w) 14 o.fI o.fdI ["self", "lifts"] (spX noMd (TBLift ML.C MW.C)) := by
  have GNLd := fun m => d_needlx (P := P) (w := w) (base := base) ML T DCP DL0 DNL m
  have GIL := d_InvalidLevel (P := P) (w := w) (base := base) ML DCP T 6
  have GIW := d_WrongWidth (P := P) (w := w) (base := base) MW DCP T 6
  have GWD := d_width2 (P := P) (w := w) (base := base) SV DWD.F T DL0
  have sc : FnScope ["self", "lifts", "by"] ["self", "lifts"] (defScope sLiftI) := ⟨rfl, rfl, rfl, by decide +kernel, rfl, by decide +kernel, by decide +kernel⟩
  refine fn_okXD o.FI sc (fun ds n K E h => ?_) (fun cdv A outer s H E er hr => ?_)
  · obtain ⟨x, v, e, _⟩ := h
    rw [e]; rfl
  · have nd := sc.nd
    refine ⟨_, (ss_cons (s_if (b_not (b_val (v_callB call_isiT (k_isi2 (KK := K)) (by rfl) T.isinstance (by decide +kernel) (a_cons (vn 1) (a_cons (v_tup (a_cons (v_bltn (v := .ty "list") (d := .ty "list") (by rfl) T.list (by decide +kernel) rfl (fun _ _ => .ty _)) (a_cons (v_bltn (v := .ty "tuple") (d := .ty "tuple") (by rfl) T.tuple (by decide +kernel) rfl (fun _ _ => .ty _)) a_nil))) a_nil)))))
      (ss_one (s_raise (er := fun C fs _ n => er C fs n) rfl (takes_of rfl rfl rfl rfl) ML.ob ML.iC ML.tI GIL mono_err (hr.mono (by decide)) ML.bI (by rfl) ML.mgC (a_cons (vn 1) a_nil)))
      ss_nil)
    (ss_cons (s_if (b_not (b_val (v_call (FnOk.pure GWD mono_width2 _) mono_width2.lift (hr.mono (by decide)) (by rfl) DWD.M DWD.F.kp DWD.B (a_cons (v_callB call_len_seq (k_len (KK := K)) (by rfl) T.len (by decide +kernel) (a_cons (vn 1) a_nil)) a_nil))))
      (ss_one (s_raise (er := fun C fs _ n => er C fs n) rfl (takes_of rfl rfl rfl rfl) MW.ob MW.iC MW.tI GIW mono_err (hr.mono (by decide)) MW.bI (by rfl) MW.mgC (a_cons (v_callB call_len_seq (k_len (KK := K)) (by rfl) T.len (by decide +kernel) (a_cons (vn 1) a_nil)) a_nil)))
      ss_nil)
    (ss_cons (s_for (passes_of rfl) rfl (i_seqN 1) (t_name (i := 2) nd rfl (Or.inl rfl))
      (ss_one (s_exp (v_callX (er := fun C fs _ n => er C fs n) (takes_of rfl rfl rfl rfl) (GNLd _) mono_needlx (hr.mono (by decide)) (by rfl) DNL.M DNL.F.kp DNL.B (a_cons (vn 2) a_nil)))))
    ss_never))), fun ds n K h => ?_⟩
    obtain ⟨x, v, e, vv, vl, ne, q0, q1, q2⟩ := h
    subst e
    obtain ⟨t, ht⟩ := vv.ty
    obtain ⟨b1, b2, g1, g2, g3⟩ := kit_seq ht
    refine ⟨_, rfl, (by show 2 ≤ sizeLine; decide), _, _, _, _, _, _, rfl, ht, g1, g2, _, rfl, ?_⟩
    rw [g3]
    cases hs : seqD v with
    | none => exact iteT ⟨_, rfl, (by show 1 ≤ 900; decide), v, rfl, vv.c, q0 hs⟩
    | some l =>
      obtain ⟨hl, hv⟩ := vl l hs
      have sl : ∀ r r' : List Sl, (Sl.val (DL.D.ptr x) :: Sl.val v :: r)[1]? = some (.val (.lst l)) ∨ (Sl.val (DL.D.ptr x) :: Sl.val v :: r)[1]? = some (.val (.tup l)) := fun r _ => (seq_or hs).imp (fun e => by rw [e]; rfl) fun e => by rw [e]; rfl
      refine iteF ⟨_, rfl, _, seq_or1 hs, _, rfl, _, rfl, ?_⟩
      cases hw : widB l.length with
      | false => exact iteT ⟨_, rfl, _, seq_or1 hs, (by show 1 ≤ 900; decide), .int l.length, rfl, .leaf rfl, q1 l hs hw⟩
      | true =>
        refine iteF ⟨l, sl _ [], fun i env' n' => n' = n ∧ (∀ y ∈ l.take i, isIntT y = true) ∧ ∃ u, env' = [.val (.ptr x), .val v, u], ⟨rfl, (fun y h => by cases h), _, rfl⟩, fun i y env' n' hy ⟨en, hp, u, e⟩ => ?_, fun env' n' ⟨en, hp, u, e⟩ => ?_⟩
        · subst en; subst e
          have my := List.mem_of_getElem? hy
          obtain ⟨ty, hty⟩ := (hv y my).ty
          refine ⟨_, rfl, _, rfl, y, ty, rfl, hty, (hv y my).c, fun h => ⟨rfl, fun z hz => ?_, _, rfl⟩, fun h => q2 l y hs hw ?_⟩
          · rw [List.take_add_one, hy] at hz
            rcases List.mem_append.mp hz with hz | hz
            · exact hp z hz
            · rw [List.mem_singleton.mp hz]; exact h
          · have lt : i < l.length := (List.getElem?_eq_some_iff.mp hy).1
            have ey : l[i] = y := (List.getElem?_eq_some_iff.mp hy).2
            unfold badI
            rw [← List.take_append_drop i l, List.find?_append, List.find?_eq_none.mpr (fun z hz => by rw [hp z hz]; decide), List.drop_eq_getElem_cons lt, ey, List.find?_cons_of_pos (by rw [h]; rfl)]
            rfl
        · refine ne l hs hw ?_
          rw [List.take_length] at hp
          exact List.find?_eq_none.mpr fun z hz => by rw [hp z hz]; decide
theorem jx_Lift {fC fL fNL fWD : Addr} {fdC fdL fdNL fdWD : FuncData} (SV : SecV K mg) (ML : ErrF K mg "InvalidLevel" "value" "InvalidLevel.__init__" "ValueError" "ValueError.__new__" "ValueError.__init__" mroValueError sInvalidLevelInit) (MW : ErrF K mg "WrongWidth" "width" "WrongWidth.__init__" "ValueError" "ValueError.__new__" "ValueError.__init__" mroValueError sWrongWidthInit) (T : Txt mg) (DCP : DefAt K mg "copied" sCopied ["value"] fC fdC) (DL0 : DefAt K mg "is_level" sIsLevel ["value"] fL fdL) (DNL : DefAt K mg "need_level" sNeedLevel ["value"] fNL fdNL) (DWD : DefAt K mg "is_width" sIsWidth ["value"] fWD fdWD) (SD : SmD P w K mg base) (o : KLift K mg) : FnOk P w K mg base (L2.CX P w) 14 o.fI o.fdI ["self", "lifts"] (spJX o.C (TJLift ML.C MW.C)) := by
  refine jx_or (d_iLift (P := P) (w := w) (base := base) o T SD) (bad_Lift (P := P) (w := w) (base := base) SV ML MW T DCP DL0 DNL DWD o) (by decide) (by decide) mono_bLift (fun ds K E h => ?_) mono_iLift
  obtain ⟨v, e, vv, vl, q0, q1, q2, g⟩ := h
  subst e
  by_cases hgood : ∃ l, seqD v = some l ∧ widB l.length = true ∧ badI l = none
  · obtain ⟨l, hs, hw, hb⟩ := hgood
    left
    have hi : ∀ z ∈ l, ∃ i, z = .int i := fun z hz => isInt_of (by
      have := List.find?_eq_none.mp hb z hz
      cases h : isIntT z with
      | true => rfl
      | false => rw [h] at this; exact absurd rfl this)
    have hm : ∃ ls : List Int, l = ls.map DL.D.int := by
      clear hb hw hs vl q1 q2 g
      induction l with
      | nil => exact ⟨[], rfl⟩
      | cons z r ih =>
        obtain ⟨i, e⟩ := hi z List.mem_cons_self
        obtain ⟨ls, e2⟩ := ih fun y hy => hi y (List.mem_cons_of_mem _ hy)
        exact ⟨i :: ls, by rw [e, e2]; rfl⟩
    obtain ⟨ls, e⟩ := hm
    subst e
    have hw' := Bool.and_eq_true_iff.mp (show (decide ((1 : Int) ≤ ((ls.map DL.D.int).length : Nat)) && decide (((ls.map DL.D.int).length : Int) ≤ 12)) = true from hw)
    rw [List.length_map] at hw'
    have w1 := of_decide_eq_true hw'.1
    have w2 := of_decide_eq_true hw'.2
    exact ⟨v, ls, rfl, seq_or hs, by omega, by omega, g _ hs hw hb _⟩
  · exact .inr fun x => ⟨x, v, rfl, vv, vl, fun l h1 h2 h3 => hgood ⟨l, h1, h2, h3⟩, q0, q1, q2⟩
end
end Rk

set_option Elab.async false
set_option linter.all false
set_option maxRecDepth 100000
set_option maxHeartbeats 1000000
namespace Rk
open PySem L2 DL
section
variable {P : Program} {w : World} {K : PySem.W.Frag} {mg : Str → Option Value} {base : Heap}
/-! ### values; what is caught -/
abbrev qL : Str := ("law" : Str) ++ ".<locals>." ++ "<lambda>"
structure Val (d : DL.D) : Prop where
  ty : ∃ t, tyN d = some t
  c : Cpy 6 d
  t : Told d
  ok : OkZ (pd d).shown
def tagD (x : Str) (d : DL.D) : DL.D := .tup [.str x, .str (pd d).shown]
theorem noTab_mS {d c s : Addr} {ns : List Int} {b : Bool} : NoTab (mS K d c s ns b) := ⟨fun n H a st e => by
  obtain ⟨l, _, h⟩ := st.1.fd
  have e' : a = d := e
  rw [e', h]
  exact ⟨fun f z => (by cases z), fun ps z => (by cases z)⟩⟩
theorem hasNox {m : Md} {P : Addr} {q : Str} (h : HasTab m P q) : HasTab m.nox P q := ⟨h.d, h.tab, h.put⟩
structure LawIT (K : PySem.W.Frag) (Pt : Addr) where
  d : Addr
  c : Addr
  s : Addr
  ns : List Int
  b : Bool
  hP : ¬ (mS K d c s ns b).g Pt
abbrev mL (K : PySem.W.Frag) (Pt : Addr) (z : LawIT K Pt) : Md := (mS K z.d z.c z.s z.ns z.b).tab Pt qL
def tLenP (i : Nat) (s : Addr) (ns : List Int) : TD := fun env n Q => env[i]? = some (.val (.ptr s)) ∧ Q (.int ns.length) n
theorem v_lenP {X : Cx} {e : Expr} {i : Nat} {Pt : Addr} {z : LawIT K Pt} (hK : X.K = K) (p : PE X e (tCB (fun xs H Q => ∃ p ys, xs = [V.ref p] ∧ (SqL X.K H p ys ∨ SqT X.K H p ys) ∧ Q (.int ys.length) H) (tCons (tVar i) tNil))) : EV X (mL K Pt z).nox e (tLenP i z.s z.ns) := by
  refine ⟨fun env n Q Q' h ⟨a, q⟩ => ⟨a, h _ _ q⟩, _, p, fun O σ H env n Q e st ⟨he, q⟩ => ?_⟩
  obtain ⟨v, h1, h2⟩ := e.val i _ he
  cases h2
  refine ⟨_, h1, z.s, z.ns.map V.int, rfl, .inl (by rw [hK]; exact st.1.2.1), ?_⟩
  rw [List.length_map]
  exact q _ H KX.refl st (.int _)
theorem strOk_of {z : Str} (h : OkZ z) : PyData.strOk z = true := by
  unfold PyData.strOk
  rw [← Array.all_toList]
  exact List.all_eq_true.mpr fun c hc => decide_eq_true (h c hc)
def Cm (d : DL.D) : Prop := DL.plain d = true ∧ SeqAt.shaped (py d) = true
theorem cm_tag {w : Str} (hw : OkZ w) {x : DL.D} (h : Val x) : Cm (tagD w x) := by
  refine ⟨by simp [tagD, DL.plain, plains], ?_⟩
  simp only [tagD, py, pys, SeqAt.shaped, PyData.canLay0, PyData.canLayAll0, PyData.depth, PyData.depthAll, strOk_of h.ok, strOk_of hw]
  decide
theorem cm_non : Cm .non := ⟨rfl, by decide +kernel⟩
theorem cm_same {x : DL.D} (h : Cm x) : PyData.eqv (py x) (py x) = true := SeqAt.eqv_refl _ (SeqAt.canLay_of_shaped h.2)
theorem val_any {k : Nat} {x : PyData} (h : AnyD k x) (hk : k ≤ 2) : Val (dP x) ∧ smB (dP x) = true := by
  have o := any_ok h
  obtain ⟨h1, e⟩ := any_told h hk
  exact ⟨⟨smB_ty (any_sm h), o.c.up (by omega), h1, by rw [e]; exact o.t.ok⟩, any_sm h⟩
theorem val_str {z : Str} (h : z.cps.toList.length ≤ 40) (g : OkZ z) : Val (.str z) ∧ smB (.str z) = true := by
  have p := prt_str h g
  exact ⟨⟨⟨_, rfl⟩, p.c.up (by decide), ⟨smB_ok p.s, p.t.sh, Nat.le_trans p.t.dp (by decide), Nat.le_trans p.t.ln (by decide)⟩, p.t.ok⟩, p.s⟩
theorem val_int {i : Int} (h : i.natAbs < 10 ^ 32) : Val (.int i) := by
  have hl : (pd (.int i)).shown.length ≤ 40 := by
    have e := int_text_length_le10 (k := 32) (by decide) h
    show (Str.ofString (toString i)).length ≤ 40
    rw [show (Str.ofString (toString i)).length = (toString i).length from by rw [Str.ofString_eq_toList]; simp only [Str.length, List.size_toArray, List.length_map, String.length_toList]]
    omega
  refine ⟨⟨_, rfl⟩, .leaf rfl, ⟨rfl, ?_, (show (0 : Nat) ≤ 150 by decide), Nat.le_trans hl (by decide)⟩, okz_ofString _⟩
  show decide (i.natAbs.log2 < 1920) = true
  exact decide_eq_true (log_lt (by decide) (Nat.lt_trans h (by decide)))
theorem val_bl (b : Bool) : Val (.bl b) := ⟨⟨_, rfl⟩, .leaf rfl, ⟨rfl, rfl, (show (0 : Nat) ≤ 150 by decide), by cases b <;> decide +kernel⟩, by cases b <;> exact okz_of (by decide +kernel)⟩
theorem val_non : Val .non := ⟨⟨_, rfl⟩, .leaf rfl, ⟨rfl, rfl, (show (0 : Nat) ≤ 150 by decide), by decide +kernel⟩, okz_of (by decide +kernel)⟩
/-- what a comparison with a lambda's outcome goes on with -/
abbrev Kif (rd : RD) (B : TD) (a b : TDS) (Z : EndD) (env : Sls) : DK := fun x n1 => B env n1 fun y n2 => rd x y fun d => ∃ k, d = .bl k ∧ if k = true then a Z env n2 else b Z env n2
theorem lam_if {HErr : HE} {Tb : Er → TD} {B : TD} {rd : RD} {a b : TDS} {Z : EndD} {env : Sls} {n : Nat} (h : Tb (fun C fs _ n' => HErr C fs (Kif rd B a b Z env) n') env n fun _ n' => Kif rd B a b Z env .non n') : sIf (bVal (tBin rd (tLamD HErr Tb) B)) a b Z env n := lam_intro h
theorem tabIn_of {f c Q : Addr} {oc e : Value} {od dd : Option Addr} {fd : FuncData} {osl sl : Array (Option Value)} {vs : Array Value} (a : PySem.W.nsIn K mainGlobals "law" = some (some (.ref f))) (l : K.lookup f = some ⟨oc, od, .func fd, osl⟩) (lc : K.lookup c = some ⟨e, dd, .fields vs, sl⟩) (v : vs[11]? = some (.ref Q)) (hc : fd.code = .ref c := by rfl) : PySem.W.tabIn K "law" = some (c, Q) := by
  unfold PySem.W.tabIn
  rw [a]
  dsimp only
  rw [l]
  dsimp only
  rw [hc]
  dsimp only
  rw [lc]
  dsimp only
  rw [v]
/-! the four errors, told apart by except -/
structure Err4 (K : PySem.W.Frag) (N L C W : Addr) : Prop where
  xN : ErrX K N
  xL : ErrX K L
  xC : ErrX K C
  xW : ErrX K W
  ln : PySem.W.exmOne K (.ref L) (.ref N) = some false
  cn : PySem.W.exmOne K (.ref C) (.ref N) = some false
  cl : PySem.W.exmOne K (.ref C) (.ref L) = some false
  wn : PySem.W.exmOne K (.ref W) (.ref N) = some false
  wl : PySem.W.exmOne K (.ref W) (.ref L) = some false
  wc : PySem.W.exmOne K (.ref W) (.ref C) = some false
def HErrC (N L C W : Addr) : HE := fun X fs K n => (X = N ∧ ∃ v, fs = [(("value" : Str), v)] ∧ Told v ∧ K (tagD "name" v) n) ∨ (X = L ∧ ∃ v, fs = [(("value" : Str), v)] ∧ Told v ∧ K (tagD "level" v) n) ∨ (X = C ∧ ∃ v, fs = [(("at" : Str), v)] ∧ Told v ∧ K (tagD "column" v) n) ∨ (X = W ∧ ∃ v, fs = [(("width" : Str), v)] ∧ Told v ∧ K (tagD "width" v) n)
theorem mono_errc {N L C W : Addr} : ∀ X fs (K K' : DK) n, (∀ d n, K d n → K' d n) → HErrC N L C W X fs K n → HErrC N L C W X fs K' n := fun X fs K K' n h z => z.imp (fun ⟨e, v, a, b, k⟩ => ⟨e, v, a, b, h _ _ k⟩) fun z => z.imp (fun ⟨e, v, a, b, k⟩ => ⟨e, v, a, b, h _ _ k⟩) fun z => z.imp (fun ⟨e, v, a, b, k⟩ => ⟨e, v, a, b, h _ _ k⟩) fun ⟨e, v, a, b, k⟩ => ⟨e, v, a, b, h _ _ k⟩
theorem scCaught : FnScope ["_law_call", "e"] ["_law_call"] (defScope sCaught) := ⟨rfl, rfl, rfl, by decide +kernel, rfl, by decide +kernel, by decide +kernel⟩
theorem cat_caught {f : Addr} {cdv : Value} (MN : ErrF K mg "InvalidName" "value" "InvalidName.__init__" "ValueError" "ValueError.__new__" "ValueError.__init__" mroValueError sInvalidNameInit) (ML : ErrF K mg "InvalidLevel" "value" "InvalidLevel.__init__" "ValueError" "ValueError.__new__" "ValueError.__init__" mroValueError sInvalidLevelInit) (MC : ErrF K mg "NoColumn" "at" "NoColumn.__init__" "IndexError" "IndexError.__new__" "IndexError.__init__" mroIndexError sNoColumnInit) (MW : ErrF K mg "WrongWidth" "width" "WrongWidth.__init__" "ValueError" "ValueError.__new__" "ValueError.__init__" mroValueError sWrongWidthInit) (X4 : Err4 K MN.C ML.C MC.C MW.C) (T : Txt mg) (hS : ∃ o, base.get? sysModules = some o) (m : Md) {A : Around} {outer : List Env} {s : Shared} {H : Hp} {k : Nat} (hgd : A.guards = some []) (hr : Room k (A.deeper (PyProof.Rows.envOfC "_law_caught" (defScope sCaught) s.heap.objs.size f cdv))) :
    Cat (cxOf CX0 P w K mg base ["_law_call", "e"] "_law_caught" (defScope sCaught) f cdv A outer s H E0).nox m ["_law_call", "e"] "_law_call" (defBody sCaught) (HErrC MN.C ML.C MC.C MW.C) := by
  have nd := scCaught.nd
  refine ⟨_, _, _, _, _, _, _, _, _, rfl, (.cons (i := 1) (C0 := MN.C) rfl rfl ⟨rfl, by decide, .inl MN.mgC⟩ (fun a d oe pn hz hf => (ss_one (s_ret (v_tup (a_cons v_str (a_cons (v_callB (call_repr hS hgd (room200 hr :)) k_repr (by rfl) T.repr (by decide +kernel) (a_cons (v_xf X4.xN.xf MN.no hz hf (vn 1)) a_nil)) a_nil))))))
      (.cons (i := 1) (C0 := ML.C) rfl rfl ⟨rfl, by decide, .inl ML.mgC⟩ (fun a d oe pn hz hf => (ss_one (s_ret (v_tup (a_cons v_str (a_cons (v_callB (call_repr hS hgd (room200 hr :)) k_repr (by rfl) T.repr (by decide +kernel) (a_cons (v_xf X4.xL.xf ML.no hz hf (vn 1)) a_nil)) a_nil))))))
      (.cons (i := 1) (C0 := MC.C) rfl rfl ⟨rfl, by decide, .inl MC.mgC⟩ (fun a d oe pn hz hf => (ss_one (s_ret (v_tup (a_cons v_str (a_cons (v_callB (call_repr hS hgd (room200 hr :)) k_repr (by rfl) T.repr (by decide +kernel) (a_cons (v_xf X4.xC.xf MC.no hz hf (vn 1)) a_nil)) a_nil))))))
      (.cons (i := 1) (C0 := MW.C) rfl rfl ⟨rfl, by decide, .inl MW.mgC⟩ (fun a d oe pn hz hf => (ss_one (s_ret (v_tup (a_cons v_str (a_cons (v_callB (call_repr hS hgd (room200 hr :)) k_repr (by rfl) T.repr (by decide +kernel) (a_cons (v_xf X4.xW.xf MW.no hz hf (vn 1)) a_nil)) a_nil))))))
      .nil)))), (ss_one (s_ret v_non)), fun C fs K n h => ?_, fun K n h => h⟩
  have no : ∀ {b : Bool} {q : Prop}, b = false → b = true → q := fun h z => by rw [h] at z; cases z
  rcases h with ⟨e, v, ef, tv, q⟩ | ⟨e, v, ef, tv, q⟩ | ⟨e, v, ef, tv, q⟩ | ⟨e, v, ef, tv, q⟩
  · subst e; subst ef
    exact ⟨true, X4.xN.te, fun _ => ⟨rfl, fun a d => ⟨_, rfl, _, _, rfl, (by rw [List.lookup_cons_self]), _, rfl, tv, (by show 2 ≤ sizeLine; decide), q⟩⟩, fun z => nomatch z⟩
  · subst e; subst ef
    exact ⟨false, X4.ln, (fun z => nomatch z), fun _ => ⟨true, X4.xL.te, fun _ => ⟨rfl, fun a d => ⟨_, rfl, _, _, rfl, (by rw [List.lookup_cons_self]), _, rfl, tv, (by show 2 ≤ sizeLine; decide), q⟩⟩, fun z => nomatch z⟩⟩
  · subst e; subst ef
    exact ⟨false, X4.cn, (fun z => nomatch z), fun _ => ⟨false, X4.cl, (fun z => nomatch z), fun _ => ⟨true, X4.xC.te, fun _ => ⟨rfl, fun a d => ⟨_, rfl, _, _, rfl, (by rw [List.lookup_cons_self]), _, rfl, tv, (by show 2 ≤ sizeLine; decide), q⟩⟩, fun z => nomatch z⟩⟩⟩
  · subst e; subst ef
    exact ⟨false, X4.wn, (fun z => nomatch z), fun _ => ⟨false, X4.wl, (fun z => nomatch z), fun _ => ⟨false, X4.wc, (fun z => nomatch z), fun _ => ⟨true, X4.xW.te, fun _ => ⟨rfl, fun a d => ⟨_, rfl, _, _, rfl, (by rw [List.lookup_cons_self]), _, rfl, tv, (by show 2 ≤ sizeLine; decide), q⟩⟩, fun z => nomatch z⟩⟩⟩⟩
end
end Rk

set_option Elab.async false
set_option linter.all false
set_option maxRecDepth 100000
set_option maxHeartbeats 1000000
namespace Rk
open PySem L2 DL
section
variable {P : Program} {w : World} {K : PySem.W.Frag} {mg : Str → Option Value} {base : Heap}
/-! ### what is due -/
def chkT (p : Str × DL.D) : Option DL.D := if p.1 = "name" then (if nameT p.2 = true then none else some (tagD "name" p.2)) else if p.1 = "column" then (if idxB p.2 12 = true then none else some (tagD "column" p.2)) else if isIntT p.2 = true then none else some (tagD "level" p.2)
def lookT (l : List (Str × DL.D)) : DL.D := (l.findSome? chkT).getD .non
def itemD (p : Str × DL.D) : DL.D := .tup [.str p.1, p.2]
structure SortOk (p : Str × DL.D) : Prop where
  v : Val p.2
  s : p.1 = "name" → smB p.2 = true
  k : p.1 = "name" ∨ p.1 = "column" ∨ p.1 = "level"
def TLooked : FT := fun ds n Q => ∃ l : List (Str × DL.D), ds = [.lst (l.map itemD)] ∧ (∀ p ∈ l, SortOk p) ∧ Q (lookT l) n
theorem mono_looked : FMono TLooked := fun ds n Q Q' h ⟨l, e, a, q⟩ => ⟨l, e, a, h _ _ q⟩
theorem look_stop {l : List (Str × DL.D)} {i : Nat} {p : Str × DL.D} {d : DL.D} (h : (l.take i).findSome? chkT = none) (hp : l[i]? = some p) (hc : chkT p = some d) : lookT l = d := by
  have lt : i < l.length := (List.getElem?_eq_some_iff.mp hp).1
  have ey : l[i] = p := (List.getElem?_eq_some_iff.mp hp).2
  unfold lookT
  rw [← List.take_append_drop i l, List.findSome?_append, h, List.drop_eq_getElem_cons lt, ey, List.findSome?_cons, hc]
  rfl
theorem look_go {l : List (Str × DL.D)} {i : Nat} {p : Str × DL.D} (h : (l.take i).findSome? chkT = none) (hp : l[i]? = some p) (hc : chkT p = none) : (l.take (i + 1)).findSome? chkT = none := by
  rw [List.take_add_one, hp, List.findSome?_append, h]
  show (List.findSome? chkT [p]) = none
  rw [List.findSome?_cons, hc]
  rfl
theorem d_looked {fU fW fI : Addr} {fdU fdW fdI : FuncData} (F : Fun K "_law_looked" "_law_looked" sLooked fU fdU) (T : Txt mg) (DIW : DefAt K mg "_law_is_word" sIsWord ["_law_value"] fW fdW) (DII : DefAt K mg "_law_is_int" sIsInt ["_law_value"] fI fdI) (hS : ∃ o, base.get? sysModules = some o) (m : Md) : FnG P w K mg base CX0 3 fU fdU ["_law_values"] (spM m TLooked) := by
  have GIWd := b_name (ok_law_is_word (P := P) (w := w) (base := base) DIW.F T)
  have GIId := d_isint (P := P) (w := w) (base := base) DII.F T
  have sc : FnScope ["_law_values", "_law_sort", "_law_value"] ["_law_values"] (defScope sLooked) := ⟨rfl, rfl, rfl, by decide +kernel, rfl, by decide +kernel, by decide +kernel⟩
  refine fn_okG F sc (fun ds n Q h => ?_) (fun cdv A outer s H E hgd hr => ?_)
  · obtain ⟨a, e, _⟩ := h
    rw [e]; rfl
  · have nd := sc.nd
    refine ⟨_, (ss_cons (s_for PassesOwn.never rfl (i_list (vn 0)) (t_tup rfl (ts_cons (t_name (i := 1) nd rfl (Or.inl rfl)) (ts_cons (t_name (i := 2) nd rfl (Or.inl rfl)) ts_nil)))
      (ss_cut (s_if (WV.b (w_and (b_cmp op_eq o_eqS (vn 1) v_str (nomark _)) (w_and1 (b_not (b_val (v_call (FnOk.pure GIWd mono_name _) mono_name.lift (hr.mono (by decide)) (by rfl) DIW.M DIW.F.kp DIW.B (a_cons (vn 2) a_nil)))))))
      (ss_one (s_ret (v_tup (a_cons v_str (a_cons (v_callB (call_repr hS hgd (room200 hr :)) k_repr (by rfl) T.repr (by decide +kernel) (a_cons (vn 2) a_nil)) a_nil)))))
      ss_nil)
    (ss_cut (s_if (WV.b (w_and (b_cmp op_eq o_eqS (vn 1) v_str (nomark _)) (w_and1 (b_not (WV.b (w_and (b_val (v_call (FnOk.pure GIId mono_isint _) mono_isint.lift (hr.mono (by decide)) (by rfl) DII.M DII.F.kp DII.B (a_cons (vn 2) a_nil))) (w_and1 (b_chain op_le o_le op_lt o_lt v_int (vn 2) v_int))))))))
      (ss_one (s_ret (v_tup (a_cons v_str (a_cons (v_callB (call_repr hS hgd (room200 hr :)) k_repr (by rfl) T.repr (by decide +kernel) (a_cons (vn 2) a_nil)) a_nil)))))
      ss_nil)
    (ss_one (s_if (WV.b (w_and (b_cmp op_eq o_eqS (vn 1) v_str (nomark _)) (w_and1 (b_not (b_val (v_call (FnOk.pure GIId mono_isint _) mono_isint.lift (hr.mono (by decide)) (by rfl) DII.M DII.F.kp DII.B (a_cons (vn 2) a_nil)))))))
      (ss_one (s_ret (v_tup (a_cons v_str (a_cons (v_callB (call_repr hS hgd (room200 hr :)) k_repr (by rfl) T.repr (by decide +kernel) (a_cons (vn 2) a_nil)) a_nil)))))
      ss_nil)))))
    (ss_one (s_ret v_non))), fun ds n Q h => ?_⟩
    obtain ⟨l, e, hl, q⟩ := h
    subst e
    refine ⟨_, rfl, l.map itemD, rfl, fun i env' n' => n' = n ∧ (l.take i).findSome? chkT = none ∧ ∃ u v, env' = [.val (.lst (l.map itemD)), u, v], ⟨rfl, rfl, _, _, rfl⟩, fun i y env' n' hy ⟨en, hp, u, v, e⟩ => ?_, fun env' n' ⟨en, hp, u, v, e⟩ => ?_⟩
    · subst en; subst e
      rw [List.getElem?_map] at hy
      cases hq : l[i]? with
      | none => rw [hq] at hy; cases hy
      | some p =>
        rw [hq] at hy
        cases hy
        have so := hl p (List.mem_of_getElem? hq)
        obtain ⟨t, ht⟩ := so.v.ty
        refine ⟨_, ⟨_, rfl, rfl, _, _, _, _, rfl, rfl, ⟨_, _, _, _, rfl, rfl, ⟨rfl, rfl⟩, rfl⟩, rfl⟩, ?_⟩
        obtain ⟨sn, v2⟩ := p
        have tv := so.v.t
        rcases so.k with e | e | e
        · replace e : sn = "name" := e
          subst e
          have cE : chkT (("name" : Str), v2) = if nameT v2 = true then none else some (tagD "name" v2) := by
            unfold chkT
            rw [if_pos rfl]
          have good : nameT v2 = true → (l.take (i + 1)).findSome? chkT = none := fun h => look_go hp hq (by rw [cE, if_pos h])
          have bad : nameT v2 = false → Q (tagD "name" v2) n' := fun h => by
            rw [look_stop hp hq (by rw [cE, if_neg (by rw [h]; decide)])] at q
            exact q
          refine ⟨fun env' n2 => n2 = n' ∧ env' = [.val (.lst (l.map itemD)), .val (.str "name"), .val v2] ∧ (l.take (i + 1)).findSome? chkT = none, ?_, fun env' n2 ⟨en, e, gd⟩ => ?_⟩
          · refine ⟨_, rfl, rfl, _, rfl, ?_⟩
            rw [show eqS (.str "name") (.str "name") = true by decide +kernel]
            refine iteT ⟨_, rfl, v2, rfl, so.s rfl, _, rfl, ?_⟩
            cases h : nameT v2 with
            | true => exact iteF ⟨rfl, rfl, good h⟩
            | false => exact iteT ⟨_, rfl, _, rfl, tv, (by show 2 ≤ sizeLine; decide), bad h⟩
          subst e; rw [en]; clear en
          refine ⟨fun env' n2 => n2 = n' ∧ env' = [.val (.lst (l.map itemD)), .val (.str "name"), .val v2] ∧ (l.take (i + 1)).findSome? chkT = none, ?_, fun env' n2 ⟨en, e, gd⟩ => ?_⟩
          · refine ⟨_, rfl, rfl, _, rfl, ?_⟩
            rw [show eqS (.str "name") (.str "column") = false by decide +kernel]
            exact iteF (iteF ⟨rfl, rfl, gd⟩)
          subst e; rw [en]; clear en
          refine ⟨_, rfl, rfl, _, rfl, ?_⟩
          rw [show eqS (.str "name") (.str "level") = false by decide +kernel]
          exact iteF (iteF ⟨rfl, gd, _, _, rfl⟩)
        · replace e : sn = "column" := e
          subst e
          have cE : chkT (("column" : Str), v2) = if idxB v2 12 = true then none else some (tagD "column" v2) := by
            unfold chkT
            rw [if_neg (show ¬ (("column" : Str) = "name") by decide +kernel), if_pos rfl]
          have good : idxB v2 12 = true → (l.take (i + 1)).findSome? chkT = none := fun h => look_go hp hq (by rw [cE, if_pos h])
          have bad : idxB v2 12 = false → Q (tagD "column" v2) n' := fun h => by
            rw [look_stop hp hq (by rw [cE, if_neg (by rw [h]; decide)])] at q
            exact q
          refine ⟨fun env' n2 => n2 = n' ∧ env' = [.val (.lst (l.map itemD)), .val (.str "column"), .val v2], ?_, fun env' n2 ⟨en, e⟩ => ?_⟩
          · refine ⟨_, rfl, rfl, _, rfl, ?_⟩
            rw [show eqS (.str "column") (.str "name") = false by decide +kernel]
            exact iteF (iteF ⟨rfl, rfl⟩)
          subst e; rw [en]; clear en
          refine ⟨fun env' n2 => n2 = n' ∧ env' = [.val (.lst (l.map itemD)), .val (.str "column"), .val v2] ∧ (l.take (i + 1)).findSome? chkT = none, ?_, fun env' n2 ⟨en, e, gd⟩ => ?_⟩
          · refine ⟨_, rfl, rfl, _, rfl, ?_⟩
            rw [show eqS (.str "column") (.str "column") = true by decide +kernel]
            refine iteT ⟨_, rfl, v2, t, rfl, ht, _, rfl, ?_⟩
            cases h0 : isIntT v2 with
            | false =>
              have h : idxB v2 12 = false := by cases v2 <;> first | rfl | cases h0
              exact iteF (iteT ⟨_, rfl, _, rfl, tv, (by show 2 ≤ sizeLine; decide), bad h⟩)
            | true =>
              obtain ⟨k, e⟩ := isInt_of h0
              subst e
              have hx : idxB (.int k) 12 = (decide (0 ≤ k) && decide (k < 12)) := rfl
              refine iteT ⟨_, rfl, _, _, rfl, rfl, _, rfl, ?_⟩
              by_cases h1 : 0 ≤ k
              · rw [decide_eq_true h1]
                refine iteT ⟨_, _, rfl, rfl, _, rfl, ?_⟩
                by_cases h2 : k < 12
                · have h : idxB (.int k) 12 = true := by rw [hx, decide_eq_true h1, decide_eq_true h2]; rfl
                  rw [decide_eq_true h2]
                  exact iteF ⟨rfl, rfl, good h⟩
                · have h : idxB (.int k) 12 = false := by rw [hx, decide_eq_false h2, Bool.and_false]
                  rw [decide_eq_false h2]
                  exact iteT ⟨_, rfl, _, rfl, tv, (by show 2 ≤ sizeLine; decide), bad h⟩
              · have h : idxB (.int k) 12 = false := by rw [hx, decide_eq_false h1, Bool.false_and]
                rw [decide_eq_false h1]
                exact iteF ⟨_, rfl, iteT ⟨_, rfl, _, rfl, tv, (by show 2 ≤ sizeLine; decide), bad h⟩⟩
          subst e; rw [en]; clear en
          refine ⟨_, rfl, rfl, _, rfl, ?_⟩
          rw [show eqS (.str "column") (.str "level") = false by decide +kernel]
          exact iteF (iteF ⟨rfl, gd, _, _, rfl⟩)
        · replace e : sn = "level" := e
          subst e
          have cE : chkT (("level" : Str), v2) = if isIntT v2 = true then none else some (tagD "level" v2) := by
            unfold chkT
            rw [if_neg (show ¬ (("level" : Str) = "name") by decide +kernel), if_neg (show ¬ (("level" : Str) = "column") by decide +kernel)]
          have good : isIntT v2 = true → (l.take (i + 1)).findSome? chkT = none := fun h => look_go hp hq (by rw [cE, if_pos h])
          have bad : isIntT v2 = false → Q (tagD "level" v2) n' := fun h => by
            rw [look_stop hp hq (by rw [cE, if_neg (by rw [h]; decide)])] at q
            exact q
          refine ⟨fun env' n2 => n2 = n' ∧ env' = [.val (.lst (l.map itemD)), .val (.str "level"), .val v2], ?_, fun env' n2 ⟨en, e⟩ => ?_⟩
          · refine ⟨_, rfl, rfl, _, rfl, ?_⟩
            rw [show eqS (.str "level") (.str "name") = false by decide +kernel]
            exact iteF (iteF ⟨rfl, rfl⟩)
          subst e; rw [en]; clear en
          refine ⟨fun env' n2 => n2 = n' ∧ env' = [.val (.lst (l.map itemD)), .val (.str "level"), .val v2], ?_, fun env' n2 ⟨en, e⟩ => ?_⟩
          · refine ⟨_, rfl, rfl, _, rfl, ?_⟩
            rw [show eqS (.str "level") (.str "column") = false by decide +kernel]
            exact iteF (iteF ⟨rfl, rfl⟩)
          subst e; rw [en]; clear en
          refine ⟨_, rfl, rfl, _, rfl, ?_⟩
          rw [show eqS (.str "level") (.str "level") = true by decide +kernel]
          refine iteT ⟨_, rfl, v2, t, rfl, ht, _, rfl, ?_⟩
          cases h : isIntT v2 with
          | true => exact iteF ⟨rfl, good h, _, _, rfl⟩
          | false => exact iteT ⟨_, rfl, _, rfl, tv, (by show 2 ≤ sizeLine; decide), bad h⟩
    · subst en; subst e
      rw [List.length_map, List.take_length] at hp
      have : lookT l = .non := by unfold lookT; rw [hp]; rfl
      rw [this] at q
      exact q
end
end Rk

set_option Elab.async false
set_option linter.all false
set_option maxRecDepth 100000
set_option maxHeartbeats 1000000
namespace Rk
open PySem L2 DL
section
variable {P : Program} {w : World} {K : PySem.W.Frag} {mg : Str → Option Value} {base : Heap}
/-! ### lifts: what is due, drawn ones -/
theorem qy {env : Sls} {n : Nat} {A B : Nat → Prop} (h : A n) : qYes env n fun b n3 => if b = true then A n3 else B n3 := by
  show (if true = true then A n else B n)
  rw [if_pos rfl]
  exact h
structure VL (d : DL.D) : Prop where
  v : Val d
  l : ∀ l, seqD d = some l → l.length ≤ 14 ∧ ∀ x ∈ l, Val x
def dliftT (d : DL.D) : DL.D := match seqD d with
  | none => tagD "level" d
  | some l => if widB l.length = true then lookT (l.map fun x => (("level" : Str), x)) else tagD "width" (.int l.length)
def TDueLift : FT := fun ds n Q => ∃ d, ds = [d] ∧ VL d ∧ Q (dliftT d) n
theorem mono_duelift : FMono TDueLift := fun ds n Q Q' h ⟨l, e, a, q⟩ => ⟨l, e, a, h _ _ q⟩
theorem d_duelift {fU fW fI fLo : Addr} {fdU fdW fdI fdLo : FuncData} (F : Fun K "_law_due_lift" "_law_due_lift" sDueLift fU fdU) (T : Txt mg) (DIW : DefAt K mg "_law_is_word" sIsWord ["_law_value"] fW fdW) (DII : DefAt K mg "_law_is_int" sIsInt ["_law_value"] fI fdI) (DLO : DefAt K mg "_law_looked" sLooked ["_law_values"] fLo fdLo) (hS : ∃ o, base.get? sysModules = some o) (m : Md) : FnG P w K mg base CX0 5 fU fdU ["_law_value"] (spM m TDueLift) := by
  have GLOd := fun m => d_looked (P := P) (w := w) (base := base) DLO.F T DIW DII hS m
  have sc : FnScope ["_law_value", "_law_one"] ["_law_value"] (defScope sDueLift) := ⟨rfl, rfl, rfl, by decide +kernel, rfl, by decide +kernel, by decide +kernel⟩
  refine fn_okG F sc (fun ds n Q h => ?_) (fun cdv A outer s H E hgd hr => ?_)
  · obtain ⟨a, e, _⟩ := h
    rw [e]; rfl
  · have nd := sc.nd
    refine ⟨_, (ss_cut (s_if (b_not (b_val (v_callB call_isiT (k_isi2 (KK := K)) (by rfl) T.isinstance (by decide +kernel) (a_cons (vn 0) (a_cons (v_tup (a_cons (v_bltn (v := .ty "list") (d := .ty "list") (by rfl) T.list (by decide +kernel) rfl (fun _ _ => .ty _)) (a_cons (v_bltn (v := .ty "tuple") (d := .ty "tuple") (by rfl) T.tuple (by decide +kernel) rfl (fun _ _ => .ty _)) a_nil))) a_nil)))))
      (ss_one (s_ret (v_tup (a_cons v_str (a_cons (v_callB (call_repr hS hgd (room200 hr :)) k_repr (by rfl) T.repr (by decide +kernel) (a_cons (vn 0) a_nil)) a_nil)))))
      ss_nil)
    (ss_cut (s_if (b_not (b_chain op_le o_le op_le o_le v_int (v_callB call_len_seq (k_len (KK := K)) (by rfl) T.len (by decide +kernel) (a_cons (vn 0) a_nil)) v_int))
      (ss_one (s_ret (v_tup (a_cons v_str (a_cons (v_callB (call_repr hS hgd (room200 hr :)) k_repr (by rfl) T.repr (by decide +kernel) (a_cons (v_callB call_len_seq (k_len (KK := K)) (by rfl) T.len (by decide +kernel) (a_cons (vn 0) a_nil)) a_nil)) a_nil)))))
      ss_nil)
    (ss_one (s_ret (v_callG hgd (GLOd _) mono_looked (hr.mono (by decide)) (by rfl) DLO.M DLO.F.kp DLO.B (a_cons (v_lc (own := [("_law_one", 1)]) (g := gName 1) (by rfl) nd (i_seqN 0) (blkOk_by (own := [("_law_one", 1)]) (N := ["_law_value", "_law_one"]) (sc := defScope sDueLift) (by decide +kernel)) (fun _ _ _ _ _ => (t_name (i := 1) nd rfl (Or.inl rfl))) (fun _ _ _ _ _ => q_nil) (fun _ _ _ _ _ => (v_tup (a_cons v_str (a_cons (vn 1) a_nil))))) a_nil)))))), fun ds n Q h => ?_⟩
    obtain ⟨d, e, v, q⟩ := h
    subst e
    obtain ⟨t, ht⟩ := v.v.ty
    obtain ⟨b1, b2, g1, g2, g3⟩ := kit_seq ht
    refine ⟨fun env' n' => n' = n ∧ env' = [.val d, .any] ∧ ∃ l, seqD d = some l, ?_, fun env' n' ⟨en, e, l, hs⟩ => ?_⟩
    · refine ⟨_, rfl, (by show 2 ≤ sizeLine; decide), _, _, _, _, _, _, rfl, ht, g1, g2, _, rfl, ?_⟩
      rw [g3]
      cases hs : seqD d with
      | none =>
        have e : dliftT d = tagD "level" d := by unfold dliftT; rw [hs]
        rw [e] at q
        exact iteT ⟨_, rfl, _, rfl, v.v.t, (by show 2 ≤ sizeLine; decide), q⟩
      | some l => exact iteF ⟨rfl, rfl, l, rfl⟩
    · subst e; rw [en]; clear en
      obtain ⟨hl, hv⟩ := v.l l hs
      have e : dliftT d = if widB l.length = true then lookT (l.map fun x => (("level" : Str), x)) else tagD "width" (.int l.length) := by unfold dliftT; rw [hs]
      refine ⟨fun env' n' => n' = n ∧ env' = [.val d, .any] ∧ widB l.length = true, ?_, fun env' n' ⟨en, e2, hw⟩ => ?_⟩
      · have rt : widB l.length = false → Q (tagD "width" (.int l.length)) n := fun h => by
          rw [e, if_neg (by rw [h]; decide)] at q
          exact q
        have tl_ : Told (.int (l.length : Int)) := (val_int (i := (l.length : Int)) (by omega)).t
        refine ⟨_, rfl, l, seq_or1 hs, _, _, rfl, rfl, _, rfl, ?_⟩
        by_cases h1 : (1 : Int) ≤ l.length
        · rw [decide_eq_true h1]
          refine iteT ⟨_, _, rfl, rfl, _, rfl, ?_⟩
          by_cases h2 : (l.length : Int) ≤ 12
          · have h : widB l.length = true := by unfold widB; rw [decide_eq_true h1, decide_eq_true h2]; rfl
            rw [decide_eq_true h2]
            exact iteF ⟨rfl, rfl, h⟩
          · have h : widB l.length = false := by unfold widB; rw [decide_eq_false h2, Bool.and_false]
            rw [decide_eq_false h2]
            exact iteT ⟨_, rfl, l, seq_or1 hs, _, rfl, tl_, (by show 2 ≤ sizeLine; decide), rt h⟩
        · have h : widB l.length = false := by unfold widB; rw [decide_eq_false h1, Bool.false_and]
          rw [decide_eq_false h1]
          exact iteF ⟨_, rfl, iteT ⟨_, rfl, l, seq_or1 hs, _, rfl, tl_, (by show 2 ≤ sizeLine; decide), rt h⟩⟩
      · subst e2; rw [en]; clear en
        rw [e, if_pos hw] at q
        refine ⟨l, (seq_or hs).imp (fun z => by rw [z]; rfl) (fun z => by rw [z]; rfl), fun i acc n2 => n2 = n ∧ acc = (l.take i).map fun x => itemD (("level" : Str), x), ⟨rfl, rfl⟩, fun i x acc n2 hx ha ⟨e1, e2⟩ => ?_, fun acc n2 ha ⟨e1, e2⟩ => ?_⟩
        · subst e1; subst e2
          refine ⟨_, rfl, fun p hp => (by rw [List.mem_singleton.mp hp]; exact List.mem_singleton.mpr rfl), qy ⟨_, rfl, (by show 2 ≤ sizeLine; decide), ?_, rfl, ?_⟩⟩
          · exact Nat.lt_of_le_of_lt (show _ ≤ 14 by rw [List.length_map, List.length_take]; omega) (by decide)
          · rw [List.take_add_one, hx, List.map_append]
            rfl
        · subst e1; subst e2
          refine ⟨l.map fun x => (("level" : Str), x), (by rw [List.take_length, List.map_map]; rfl), fun p hp => ?_, q⟩
          obtain ⟨x, hx, e⟩ := List.mem_map.mp hp
          subst e
          exact ⟨hv x hx, fun h => absurd (show ("level" : Str) = "name" from h) (by decide +kernel), .inr (.inr rfl)⟩
/-! drawn ones -/
theorem val_prt {x : DL.D} (p : Prt x) : Val x := ⟨smB_ty p.s, p.c.up (by decide), ⟨smB_ok p.s, p.t.sh, Nat.le_trans p.t.dp (by decide), Nat.le_trans p.t.ln (by decide)⟩, p.t.ok⟩
theorem val_lst {l : List DL.D} (h : ∀ x ∈ l, Prt x) (hl : l.length ≤ 14) : Val (.lst l) := by
  have c : Cpy 6 (.lst l) := .lst (by omega) fun x hx => (h x hx).c.up (by decide)
  have t : Tl 5 (14 * (600 + 2) + 3) (pd (.lst l)) := by
    rw [pd, pds_map]
    exact Tl.listN (n := 14) (fun x hx => by
      obtain ⟨y, hy, e⟩ := List.mem_map.mp hx
      rw [← e]; exact (h y hy).t) (by rw [List.length_map]; exact hl)
  exact ⟨⟨_, rfl⟩, c, ⟨c.ok, t.sh, Nat.le_trans t.dp (by decide), Nat.le_trans t.ln (by decide)⟩, t.ok⟩
theorem val_tup {l : List DL.D} (h : ∀ x ∈ l, Prt x) (hl : l.length ≤ 14) : Val (.tup l) := by
  have c : Cpy 6 (.tup l) := .tup (by omega) fun x hx => (h x hx).c.up (by decide)
  have t : Tl 5 (14 * (600 + 2) + 3) (pd (.tup l)) := by
    rw [pd, pds_map]
    exact Tl.tupleN (n := 14) (fun x hx => by
      obtain ⟨y, hy, e⟩ := List.mem_map.mp hx
      rw [← e]; exact (h y hy).t) (by rw [List.length_map]; exact hl)
  exact ⟨⟨_, rfl⟩, c, ⟨c.ok, t.sh, Nat.le_trans t.dp (by decide), Nat.le_trans t.ln (by decide)⟩, t.ok⟩
theorem vl_lst {l : List DL.D} (h : ∀ x ∈ l, Prt x) (hl : l.length ≤ 14) : VL (.lst l) := ⟨val_lst h hl, fun l' e => by cases e; exact ⟨hl, fun x hx => val_prt (h x hx)⟩⟩
theorem vl_tup {l : List DL.D} (h : ∀ x ∈ l, Prt x) (hl : l.length ≤ 14) : VL (.tup l) := ⟨val_tup h hl, fun l' e => by cases e; exact ⟨hl, fun x hx => val_prt (h x hx)⟩⟩
def prtB (y : DL.D) : Bool := smB y && cpyB 4 y && tlB 4 600 (pd y)
theorem prt_of {y : DL.D} (h : prtB y = true) : Prt y := by
  unfold prtB at h
  simp only [Bool.and_eq_true] at h
  exact ⟨h.1.1, cpy_of h.1.2, tl_of h.2⟩
theorem leafs_vl : ∀ x ∈ leafs ++ leafs2, (match seqD (dP x) with | none => true | some l => decide (l.length ≤ 14) && l.all prtB) = true := by decide +kernel
theorem vl_any {x : PyData} (h : AnyD 2 x) : VL (dP x) := by
  refine ⟨(val_any h (by decide)).1, ?_⟩
  cases h with
  | leaf hx =>
    intro l e
    have a := leafs_vl x hx
    rw [e] at a
    obtain ⟨b, c⟩ := He.ba a
    exact ⟨of_decide_eq_true b, fun y hy => val_prt (prt_of (List.all_eq_true.mp c y hy))⟩
  | lst hl hx =>
    intro l e
    rw [dP] at e
    cases e
    refine ⟨by rw [dPs_len]; omega, fun y hy => ?_⟩
    obtain ⟨z, hz, e⟩ := dPs_mem hy
    rw [e]
    exact val_prt (prt_any (hx z hz))
  | tup hl hx =>
    intro l e
    rw [dP] at e
    cases e
    refine ⟨by rw [dPs_len]; omega, fun y hy => ?_⟩
    obtain ⟨z, hz, e⟩ := dPs_mem hy
    rw [e]
    exact val_prt (prt_any (hx z hz))
  | dic hl hx =>
    intro l e
    rw [dP] at e
    cases e
def TSome (d : Addr) : FT := fun ds n Q => ds = [.ptr d] ∧ n + 200 < 1000000000 ∧ ∀ (v : DL.D) n', VL v → n' ≤ n + 100 → Q v n'
theorem mono_some {d : Addr} : FMono (TSome d) := fun ds n Q Q' h ⟨a, b, q⟩ => ⟨a, b, fun i n' h1 h2 => h _ _ (q i n' h1 h2)⟩
theorem d_some {d c0 s0 : Addr} {ns : List Int} {bb : Bool} {f fD fP fA : Addr} {fd fdD fdP fdA : FuncData} (F : Fun K "_law_some_lifts" "_law_some_lifts" sSomeLifts f fd) (T : Txt mg) (D : DefAt K mg "_law_draw" sDraw ["_law_feed_here", "_law_many"] fD fdD) (DP : DefAt K mg "_law_pick" sPick ["_law_feed_here", "_law_options"] fP fdP) (DA : DefAt K mg "_law_any" sAny ["_law_feed_here", "_law_deep"] fA fdA) : FnOk P w K mg base CX0 7 f fd ["_law_feed_here"] (spM (mS K d c0 s0 ns bb) (TSome d)) := by
  have GDd := b_draw (d := d) (c := c0) (s := s0) (ns := ns) (b := bb) (ok_draw (P := P) (w := w) (base := base) D.F T)
  have GPd := b_pick (d := d) (c := c0) (s := s0) (ns := ns) (b := bb) (ok_pickL (P := P) (w := w) (base := base) DP.F T D)
  have GAd := b_any (d := d) (c := c0) (s := s0) (ns := ns) (b := bb) (ok_any (P := P) (w := w) (base := base) DA T D DP)
  have sc : FnScope ["_law_feed_here", "_law_found", "_law_k"] ["_law_feed_here"] (defScope sSomeLifts) := ⟨rfl, rfl, rfl, by decide +kernel, rfl, by decide +kernel, by decide +kernel⟩
  refine fn_ok F sc (fun ds n Q h => ?_) (fun cdv A outer s H E hr => ?_)
  · obtain ⟨e, _⟩ := h
    rw [e]; rfl
  · have nd := sc.nd
    refine ⟨_, (ss_cons (s_ownLc (i := 1) (own := [("_law_k", 2)]) (g := gName 2) rfl nd rfl rfl (sw_true rfl rfl rfl (by decide +kernel)) (i_range (a_cons (v_call GPd mono_pick (hr.mono (by decide)) (by rfl) DP.M DP.F.kp DP.B (a_cons (vn 0) (a_cons (v_lst (a_cons v_int (a_cons v_int (a_cons v_int (a_cons v_int (a_cons v_int (a_cons v_int (a_cons v_int a_nil)))))))) a_nil))) a_nil) (by rfl) T.range) (blkOk_by (own := [("_law_k", 2)]) (N := ["_law_feed_here", "_law_found", "_law_k"]) (sc := defScope sSomeLifts) (by decide +kernel)) (fun _ _ _ _ _ => (t_name (i := 2) nd rfl (Or.inl rfl))) (fun _ _ _ _ _ => q_nil) (fun _ _ _ _ _ => (v_op op_sub o_sub (v_call GDd mono_draw (hr.mono (by decide)) (by rfl) D.M D.F.kp D.B (a_cons (vn 0) (a_cons v_int a_nil))) v_int)))
    (ss_cut (s_if (b_peek (WV.b (w_and (b_cmp (op_neD hr.units) (o_neD (KK := K)) (vn 1) (v_lst a_nil) (nomark _)) (w_and1 (b_cmp op_eq o_eqS (v_call GDd mono_draw (hr.mono (by decide)) (by rfl) D.M D.F.kp D.B (a_cons (vn 0) (a_cons v_int a_nil))) v_int (nomark _))))))
      (ss_one (s_setIx (i := 1) (v_call GAd mono_any (hr.mono (by decide)) (by rfl) DA.M DA.F.kp DA.B (a_cons (vn 0) (a_cons v_int a_nil))) (v_peek (v_call GDd mono_draw (hr.mono (by decide)) (by rfl) D.M D.F.kp D.B (a_cons (vn 0) (a_cons (v_callB call_len_seq (k_len (KK := K)) (by rfl) T.len (by decide +kernel) (a_cons (vn 1) a_nil)) a_nil)))) (fun h g => ps_asg h (pg_sub (pv 1) g set_list))))
      ss_nil)
    (ss_one (s_free 1 (s_ret (v_call GPd mono_pick (hr.mono (by decide)) (by rfl) DP.M DP.F.kp DP.B (a_cons (vn 0) (a_cons (v_lst (a_cons (vn 1) (a_cons (v_callTy call_tuple_of (k_tuple (KK := K)) (by rfl) T.tuple (by decide +kernel) (a_cons (vn 1) a_nil)) (a_cons (vn 1) (a_cons (v_call GAd mono_any (hr.mono (by decide)) (by rfl) DA.M DA.F.kp DA.B (a_cons (vn 0) (a_cons v_int a_nil))) a_nil))))) a_nil)))))))), fun ds n Q h => ?_⟩
    obtain ⟨e, hn, q⟩ := h
    subst e
    refine ⟨_, rfl, (by show 7 ≤ sizeLine; decide), _, rfl, by omega, (by show 0 < 7; decide), (by show 7 < 1000000; decide), fun x n1 hx hn1 => ?_⟩
    have hk : ∃ k : Nat, x = .int k ∧ k ≤ 14 := by
      simp only [List.mem_cons, List.not_mem_nil, or_false] at hx
      rcases hx with e | e | e | e | e | e | e <;> subst e
      · exact ⟨0, rfl, by decide⟩
      · exact ⟨1, rfl, by decide⟩
      · exact ⟨2, rfl, by decide⟩
      · exact ⟨11, rfl, by decide⟩
      · exact ⟨12, rfl, by decide⟩
      · exact ⟨13, rfl, by decide⟩
      · exact ⟨14, rfl, by decide⟩
    obtain ⟨k, e, hk⟩ := hk
    subst e
    refine ⟨_, rfl, by omega, by omega, fun i acc n2 => n2 ≤ n1 + i ∧ ∃ l : List Int, acc = l.map DL.D.int ∧ l.length = i ∧ ∀ z ∈ l, z.natAbs < 10 ^ 30, ⟨by omega, [], rfl, rfl, fun z h => (by cases h)⟩, fun i y acc n2 hy ha ⟨hn2, l, e, hl, hb⟩ => ?_, fun acc n2 ha ⟨hn2, l, e, hl, hb⟩ => ?_⟩
    · subst e
      have hi : i < 14 := by
        have := (List.getElem?_eq_some_iff.mp hy).1
        unfold rangeD at this
        rw [List.length_map, List.length_range] at this
        omega
      refine ⟨_, rfl, fun p hp => (by rw [List.mem_singleton.mp hp]; exact List.mem_singleton.mpr rfl), qy ⟨_, rfl, 9, rfl, by omega, by decide, by decide, fun r n3 r0 r1 hn3 => ⟨_, _, rfl, rfl, ?_, by omega, l ++ [r - 4], (by rw [List.map_append]; rfl), (by rw [List.length_append, hl]; rfl), fun z hz => ?_⟩⟩⟩
      · exact Nat.lt_of_le_of_lt (show _ ≤ 14 by omega) (by decide)
      · rcases List.mem_append.mp hz with h | h
        · exact hb z h
        · rw [List.mem_singleton.mp h]; omega
    · subst e
      have hll : l.length ≤ 14 := by
        unfold rangeD at hl
        rw [List.length_map, List.length_range] at hl
        omega
      have hr2 : (rangeD 0 ((k : Int)).toNat).length ≤ 14 := by
        unfold rangeD
        rw [List.length_map, List.length_range]
        omega
      have pr : ∀ x ∈ l.map DL.D.int, Prt x := fun x hx => by
        obtain ⟨z, hz, e⟩ := List.mem_map.mp hx
        subst e
        exact prt_int (hb z hz)
      refine ⟨(by show 1 < 3; decide), fun env' n' => n' ≤ n + 30 ∧ ∃ ds : List DL.D, env' = [.val (.ptr d), .own (.lst ds), .any] ∧ (∀ x ∈ ds, Prt x) ∧ ds.length ≤ 14, ?_, fun env' n' ⟨hn', ds, e, hd, hld⟩ => ?_⟩
      · have skip : ∀ n', n' ≤ n + 30 → n' ≤ n + 30 ∧ ∃ ds : List DL.D, [Sl.val (.ptr d), .own (.lst (l.map DL.D.int)), .any] = [.val (.ptr d), .own (.lst ds), .any] ∧ (∀ x ∈ ds, Prt x) ∧ ds.length ≤ 14 := fun n' h => ⟨h, _, rfl, pr, by rw [List.length_map]; exact hll⟩
        refine ⟨_, rfl, (by show 0 ≤ sizeLine; decide), ?_, rfl, ?_, rfl, _, rfl, ?_⟩
        · show plains (l.map DL.D.int) = true
          exact plains_map (fun _ => rfl) l
        · show SeqAt.shaped (.list (pys (l.map DL.D.int))) = true
          rw [pys_map (g := PyData.int) (fun _ => rfl)]
          exact shInts l
        · cases l with
          | nil => exact iteF (iteF (skip _ (by omega)))
          | cons z0 zs =>
            have pos : 0 < ((z0 :: zs).map DL.D.int).length := by rw [List.length_map, List.length_cons]; omega
            split
            · refine ⟨_, rfl, 2, rfl, by omega, by decide, by decide, fun r n3 r0 r1 hn3 => ⟨rfl, _, rfl, ?_⟩⟩
              rcases Bool.eq_false_or_eq_true (eqS (.int r) (.int 0)) with hE | hE <;> rw [hE]
              · refine iteT ⟨⟨_, rfl⟩, _, rfl, 1, rfl, by decide, (by show _ + 5 < 1000000000; omega), fun x n4 hx hn4 => ?_⟩
                have hn4' : n4 ≤ n3 + 5 := hn4
                refine ⟨_, rfl, _, rfl, _, .inl rfl, _, rfl, by omega, by omega, ?_, fun q n5 q0 q1 hn5 => ⟨rfl, _, q, q.toNat, rfl, rfl, ?_, by omega, _, rfl, fun y hy => ?_, ?_⟩⟩
                · rw [List.length_map] at *; omega
                · unfold ixN; rw [if_pos q0, if_pos q1]
                · rcases List.mem_or_eq_of_mem_set hy with h | h
                  · exact pr y h
                  · rw [h]; exact prt_any hx
                · rw [List.length_set, List.length_map]; exact hll
              · exact iteF (skip _ (by omega))
            · exact iteF (skip _ (by omega))
      · subst e
        refine ⟨_, rfl, _, rfl, _, rfl, _, rfl, _, .inl rfl, _, rfl, _, rfl, 2, rfl, by decide, (by show _ + 17 < 1000000000; omega), fun x n3 hx hn3 => ?_⟩
        have hn3' : n3 ≤ n' + 17 := hn3
        refine ⟨(by show 4 ≤ sizeLine; decide), _, rfl, by omega, (by show 0 < 4; decide), (by show 4 < 1000000; decide), fun y n4 hy hn4 => ?_⟩
        simp only [List.mem_cons, List.not_mem_nil, or_false] at hy
        rcases hy with e | e | e | e <;> subst e
        · exact q _ n4 (vl_lst hd hld) (by omega)
        · exact q _ n4 (vl_tup hd hld) (by omega)
        · exact q _ n4 (vl_lst hd hld) (by omega)
        · exact q _ n4 (vl_any hx) (by omega)
end
end Rk

set_option Elab.async false
set_option linter.all false
set_option maxRecDepth 100000
set_option maxHeartbeats 1000000
namespace Rk
open PySem L2 DL
section
variable {P : Program} {w : World} {K : PySem.W.Frag} {mg : Str → Option Value} {base : Heap}
/-! ### the law -/
def spLaw (K : PySem.W.Frag) (Pt : Addr) : Sp := fun vs H Q _ => ∃ (a : Addr) (ns : List Int), vs = [.ref a] ∧ SqL K H a (ns.map V.int) ∧ ns.length ≤ 63 ∧ H Pt = some (.tbl #[]) ∧ ∀ H', Q (.bl true) H'
structure LDefs (K : PySem.W.Frag) (mg : Str → Option Value) where
  fF : Addr
  fdF : FuncData
  DF : DefAt K mg "_law_feed" sFeed ["_law_script"] fF fdF
  fD : Addr
  fdD : FuncData
  DD : DefAt K mg "_law_draw" sDraw ["_law_feed_here", "_law_many"] fD fdD
  fP : Addr
  fdP : FuncData
  DP : DefAt K mg "_law_pick" sPick ["_law_feed_here", "_law_options"] fP fdP
  fA : Addr
  fdA : FuncData
  DA : DefAt K mg "_law_any" sAny ["_law_feed_here", "_law_deep"] fA fdA
  fII : Addr
  fdII : FuncData
  DII : DefAt K mg "_law_is_int" sIsInt ["_law_value"] fII fdII
  fIW : Addr
  fdIW : FuncData
  DIW : DefAt K mg "_law_is_word" sIsWord ["_law_value"] fIW fdIW
  fLO : Addr
  fdLO : FuncData
  DLO : DefAt K mg "_law_looked" sLooked ["_law_values"] fLO fdLO
  fDU : Addr
  fdDU : FuncData
  DDU : DefAt K mg "_law_due_lift" sDueLift ["_law_value"] fDU fdDU
  fSO : Addr
  fdSO : FuncData
  DSO : DefAt K mg "_law_some_lifts" sSomeLifts ["_law_feed_here"] fSO fdSO
  fCP : Addr
  fdCP : FuncData
  DCP : DefAt K mg "copied" sCopied ["value"] fCP fdCP
  fIX : Addr
  fdIX : FuncData
  DIX : DefAt K mg "is_index" sIsIndex ["value", "count"] fIX fdIX
def sm_d {tN : Tok} {fN fL fX fS fNN fNL fNS fNC fWD : Addr} {fdN fdL fdX fdS fdNN fdNL fdNS fdNC fdWD : FuncData} (T : Txt mg) (SV : SecV K mg) (mgN : mg "LONGEST_NAME" = some (.int 8 tN)) (DN : DefAt K mg "is_name" sIsName ["value"] fN fdN) (DL0 : DefAt K mg "is_level" sIsLevel ["value"] fL fdL) (DIX : DefAt K mg "is_index" sIsIndex ["value", "count"] fX fdX) (DSP : DefAt K mg "is_span" sIsSpan ["value"] fS fdS)
    (DNN : DefAt K mg "need_name" sNeedName ["value"] fNN fdNN) (DNL : DefAt K mg "need_level" sNeedLevel ["value"] fNL fdNL) (DNS : DefAt K mg "need_span_or_none" sNeedSpanOrNone ["value"] fNS fdNS) (DNC : DefAt K mg "need_column" sNeedColumn ["value"] fNC fdNC) (DWD : DefAt K mg "is_width" sIsWidth ["value"] fWD fdWD) : SmD P w K mg base where
  fNN := fNN
  fdNN := fdNN
  DNN := DNN
  GNN := b_needn (ok_need_name DNN.F T DN mgN)
  fNL := fNL
  fdNL := fdNL
  DNL := DNL
  GNL := b_needl (ok_need_level DNL.F T DL0)
  fNS := fNS
  fdNS := fdNS
  DNS := DNS
  GNS := d_needs DNS.F T DSP
  fNC := fNC
  fdNC := fdNC
  DNC := DNC
  GNC := d_needc SV DNC.F T DIX DL0
  fWD := fWD
  fdWD := fdWD
  DWD := DWD
  GWD := d_width SV DWD.F T DL0

/-! what is due, kind by kind -/
theorem lookT_cons (p : Str × DL.D) (l : List (Str × DL.D)) : lookT (p :: l) = (chkT p).getD (lookT l) := by
  unfold lookT
  rw [List.findSome?_cons]
  cases chkT p <;> rfl
theorem chk_n (y : DL.D) : chkT (("name" : Str), y) = if nameT y = true then none else some (tagD "name" y) := by
  unfold chkT
  rw [if_pos rfl]
theorem chk_c (y : DL.D) : chkT (("column" : Str), y) = if idxB y 12 = true then none else some (tagD "column" y) := by
  unfold chkT
  rw [if_neg (show ¬ (("column" : Str) = "name") by decide +kernel), if_pos rfl]
theorem chk_l (y : DL.D) : chkT (("level" : Str), y) = if isIntT y = true then none else some (tagD "level" y) := by
  unfold chkT
  rw [if_neg (show ¬ (("level" : Str) = "name") by decide +kernel), if_neg (show ¬ (("level" : Str) = "column") by decide +kernel)]
theorem ln_t {y : DL.D} {l : List (Str × DL.D)} (h : nameT y = true) : lookT ((("name" : Str), y) :: l) = lookT l := by rw [lookT_cons, chk_n, if_pos h]; rfl
theorem ln_f {y : DL.D} {l : List (Str × DL.D)} (h : nameT y = false) : lookT ((("name" : Str), y) :: l) = tagD "name" y := by rw [lookT_cons, chk_n, if_neg (by rw [h]; decide)]; rfl
theorem lc_t {y : DL.D} {l : List (Str × DL.D)} (h : idxB y 12 = true) : lookT ((("column" : Str), y) :: l) = lookT l := by rw [lookT_cons, chk_c, if_pos h]; rfl
theorem lc_f {y : DL.D} {l : List (Str × DL.D)} (h : idxB y 12 = false) : lookT ((("column" : Str), y) :: l) = tagD "column" y := by rw [lookT_cons, chk_c, if_neg (by rw [h]; decide)]; rfl
theorem ll_t {y : DL.D} {l : List (Str × DL.D)} (h : isIntT y = true) : lookT ((("level" : Str), y) :: l) = lookT l := by rw [lookT_cons, chk_l, if_pos h]; rfl
theorem ll_f {y : DL.D} {l : List (Str × DL.D)} (h : isIntT y = false) : lookT ((("level" : Str), y) :: l) = tagD "level" y := by rw [lookT_cons, chk_l, if_neg (by rw [h]; decide)]; rfl
theorem cm_look : ∀ {l : List (Str × DL.D)}, (∀ p ∈ l, SortOk p) → Cm (lookT l)
  | [], _ => cm_non
  | (s, v) :: r, h => by
    have so := h (s, v) List.mem_cons_self
    have ih := cm_look (l := r) fun p hp => h p (List.mem_cons_of_mem _ hp)
    rcases so.k with e | e | e
    · replace e : s = "name" := e
      subst e
      cases q : nameT v with
      | true => rw [ln_t q]; exact ih
      | false => rw [ln_f q]; exact cm_tag (okz_of (by decide +kernel)) so.v
    · replace e : s = "column" := e
      subst e
      cases q : idxB v 12 with
      | true => rw [lc_t q]; exact ih
      | false => rw [lc_f q]; exact cm_tag (okz_of (by decide +kernel)) so.v
    · replace e : s = "level" := e
      subst e
      cases q : isIntT v with
      | true => rw [ll_t q]; exact ih
      | false => rw [ll_f q]; exact cm_tag (okz_of (by decide +kernel)) so.v
theorem so_n {y : DL.D} (v : Val y) (s : smB y = true) : SortOk (("name" : Str), y) := ⟨v, fun _ => s, .inl rfl⟩
theorem so_c {y : DL.D} (v : Val y) : SortOk (("column" : Str), y) := ⟨v, fun h => absurd (show ("column" : Str) = "name" from h) (by decide +kernel), .inr (.inl rfl)⟩
theorem so_l {y : DL.D} (v : Val y) : SortOk (("level" : Str), y) := ⟨v, fun h => absurd (show ("level" : Str) = "name" from h) (by decide +kernel), .inr (.inr rfl)⟩
theorem so_nil : ∀ p ∈ ([] : List (Str × DL.D)), SortOk p := fun p hp => by cases hp
theorem so_cons {a : Str × DL.D} {l : List (Str × DL.D)} (h : SortOk a) (r : ∀ p ∈ l, SortOk p) : ∀ p ∈ a :: l, SortOk p := fun p hp => (List.mem_cons.mp hp).elim (fun e => by rw [e]; exact h) (r p)
variable {EN EL EC EW : Addr} {Kx : DK} {n : Nat}
theorem lay_ok {y z : DL.D} (sy : smB y = true) (vy : Val y) (vz : Val z) (kk : Kx (lookT [(("name" : Str), y), (("level" : Str), z)]) n) : TJLay EN EL EC [y, z, .non] (fun _ => Kx .non n) (fun C' fs => HErrC EN EL EC EW C' fs Kx n) :=
  ⟨y, z, rfl, sy, ⟨vy.ty, vy.c⟩, ⟨vz.ty, vz.c⟩, fun h => .inl ⟨rfl, y, rfl, vy.t, by rw [ln_f h] at kk; exact kk⟩, fun h h' => .inr (.inl ⟨rfl, z, rfl, vz.t, by rw [ln_t h, ll_f h'] at kk; exact kk⟩), fun h h' _ => by rw [ln_t h, ll_t h'] at kk; exact kk⟩
theorem cut_ok {y z : DL.D} (sy : smB y = true) (vy : Val y) (vz : Val z) (kk : Kx (lookT [(("name" : Str), y), (("level" : Str), z)]) n) : TJCut EN EL EC [y, z, .non] (fun _ => Kx .non n) (fun C' fs => HErrC EN EL EC EW C' fs Kx n) :=
  ⟨y, z, rfl, sy, ⟨vy.ty, vy.c⟩, ⟨vz.ty, vz.c⟩, fun h => .inl ⟨rfl, y, rfl, vy.t, by rw [ln_f h] at kk; exact kk⟩, fun h h' => .inr (.inl ⟨rfl, z, rfl, vz.t, by rw [ln_t h, ll_f h'] at kk; exact kk⟩), fun h h' _ => by rw [ln_t h, ll_t h'] at kk; exact kk⟩
theorem dike_ok {y k z : DL.D} (sy : smB y = true) (vy : Val y) (vk : Val k) (vz : Val z) (kk : Kx (lookT [(("name" : Str), y), (("column" : Str), k), (("level" : Str), z)]) n) : TJDike EN EL EC [y, k, z] (fun _ => Kx .non n) (fun C' fs => HErrC EN EL EC EW C' fs Kx n) :=
  ⟨y, k, z, rfl, sy, ⟨vy.ty, vy.c⟩, ⟨vk.ty, vk.c⟩, ⟨vz.ty, vz.c⟩, fun h => .inl ⟨rfl, y, rfl, vy.t, by rw [ln_f h] at kk; exact kk⟩, fun h h' => .inr (.inr (.inl ⟨rfl, k, rfl, vk.t, by rw [ln_t h, lc_f h'] at kk; exact kk⟩)), fun h h' h2 => .inr (.inl ⟨rfl, z, rfl, vz.t, by rw [ln_t h, lc_t h', ll_f h2] at kk; exact kk⟩), fun h h' h2 _ => by rw [ln_t h, lc_t h', ll_t h2] at kk; exact kk⟩
theorem fault_ok {k z : DL.D} (vk : Val k) (vz : Val z) (kk : Kx (lookT [(("column" : Str), k), (("level" : Str), z)]) n) : TJFault EN EL EC [k, z] (fun _ => Kx .non n) (fun C' fs => HErrC EN EL EC EW C' fs Kx n) :=
  ⟨k, z, rfl, ⟨vk.ty, vk.c⟩, ⟨vz.ty, vz.c⟩, fun h => .inr (.inr (.inl ⟨rfl, k, rfl, vk.t, by rw [lc_f h] at kk; exact kk⟩)), fun h h' => .inr (.inl ⟨rfl, z, rfl, vz.t, by rw [lc_t h, ll_f h'] at kk; exact kk⟩), fun h h' _ => by rw [lc_t h, ll_t h'] at kk; exact kk⟩
theorem tilt_ok {z : DL.D} (vz : Val z) (kk : Kx (lookT [(("level" : Str), z)]) n) : TJTilt EN EL EC [z] (fun _ => Kx .non n) (fun C' fs => HErrC EN EL EC EW C' fs Kx n) :=
  ⟨z, rfl, ⟨vz.ty, vz.c⟩, fun h => .inr (.inl ⟨rfl, z, rfl, vz.t, by rw [ll_f h] at kk; exact kk⟩), fun h _ => by rw [ll_t h] at kk; exact kk⟩
theorem look_lv : ∀ l : List DL.D, lookT (l.map fun x => (("level" : Str), x)) = match badI l with
    | some y => tagD "level" y
    | none => .non
  | [] => rfl
  | x :: r => by
    rw [List.map_cons]
    unfold badI
    rw [List.find?_cons]
    cases h : isIntT x with
    | true => rw [ll_t h]; exact look_lv r
    | false => rw [ll_f h]; rfl
theorem lift_ok {v : DL.D} (vl : VL v) (kk : Kx (dliftT v) n) : TJLift EL EW [v] (fun _ => Kx .non n) (fun C' fs => HErrC EN EL EC EW C' fs Kx n) := by
  refine ⟨v, rfl, ⟨vl.v.ty, vl.v.c⟩, fun l hl => ?_, fun h => .inr (.inl ⟨rfl, v, rfl, vl.v.t, ?_⟩), fun l h h' => .inr (.inr (.inr ⟨rfl, .int l.length, rfl, ?_, ?_⟩)), fun l y h h' hb => .inr (.inl ⟨rfl, y, rfl, ?_, ?_⟩), fun l h h' hb _ => ?_⟩
  · obtain ⟨h1, h2⟩ := vl.l l hl
    exact ⟨by omega, fun x hx => ⟨(h2 x hx).ty, (h2 x hx).c⟩⟩
  · unfold dliftT at kk; rw [h] at kk; exact kk
  · obtain ⟨h1, _⟩ := vl.l l h
    exact (val_int (i := (l.length : Int)) (by omega)).t
  · unfold dliftT at kk; rw [h] at kk; dsimp only at kk; rw [if_neg (by rw [h']; decide)] at kk; exact kk
  · obtain ⟨_, h2⟩ := vl.l l h
    exact (h2 y (List.mem_of_find?_eq_some hb)).t
  · unfold dliftT at kk; rw [h] at kk; dsimp only at kk; rw [if_pos h', look_lv, hb] at kk; exact kk
  · unfold dliftT at kk; rw [h] at kk; dsimp only at kk; rw [if_pos h', look_lv, hb] at kk; exact kk
theorem cm_dlift {v : DL.D} (vl : VL v) : Cm (dliftT v) := by
  unfold dliftT
  split
  · exact cm_tag (okz_of (by decide +kernel)) vl.v
  · rename_i l h
    obtain ⟨h1, h2⟩ := vl.l l h
    split
    · refine cm_look fun p hp => ?_
      obtain ⟨x, hx, e⟩ := List.mem_map.mp hp
      rw [← e]
      exact so_l (h2 x hx)
    · exact cm_tag (okz_of (by decide +kernel)) (val_int (by omega))
theorem val_a : Val (.str "a") ∧ smB (.str "a") = true := val_str (by decide +kernel) (okz_of (by decide +kernel))
theorem scLaw : FnScope ["_law_script", "_law_feed_here", "_law_turn", "_law_stone", "_law_goal", "_law_k", "_law_both", "_law_given", "_law_kept"] ["_law_script"] (defScope sLaw) := ⟨rfl, rfl, rfl, by decide +kernel, rfl, by decide +kernel, by decide +kernel⟩
abbrev Kifo (rd : RD) (B : TD) (R : TDb) (a b : TDS) (Z : EndD) (env : Sls) : DK := fun x n1 => B env n1 fun y n2 => rd x y fun d => ∃ k, d = .bl k ∧ if k = true then (if true = true then a Z env n2 else b Z env n2) else R env n2 fun c n3 => if c = true then a Z env n3 else b Z env n3
theorem lam_ifo {HErr : HE} {Tb : Er → TD} {B : TD} {R : TDb} {rd : RD} {a b : TDS} {Z : EndD} {env : Sls} {n : Nat} (h : Tb (fun C fs _ n' => HErr C fs (Kifo rd B R a b Z env) n') env n fun _ n' => Kifo rd B R a b Z env .non n') : sIf (bOr (bVal (tBin rd (tLamD HErr Tb) B)) R) a b Z env n := lam_intro h
set_option maxHeartbeats 4000000 in
theorem ok_law {f cL Pt fDN fDL0 fDNN fDNL fDWD fDNC fDCA : Addr} {fdDN fdDL0 fdDNN fdDNL fdDWD fdDNC fdDCA : FuncData} {tN : Tok} {oc kV doc pm ct : Value} {od an : Option Addr} {osl : Array (Option Value)} (lk : K.lookup f = some ⟨oc, od, .func (PySem.W.fnOf "law" "law" (defArgs sLaw) (defBody sLaw) (defScope sLaw) .none kV doc pm an (.ref cL) ct), osl⟩) (hcd : PySem.W.codeIn K (.ref cL) "law" = true) (TB : LamX.TabB base mg cL Pt) (T : Txt mg) (SV : SecV K mg) (MN : ErrF K mg "InvalidName" "value" "InvalidName.__init__" "ValueError" "ValueError.__new__" "ValueError.__init__" mroValueError sInvalidNameInit) (ML : ErrF K mg "InvalidLevel" "value" "InvalidLevel.__init__" "ValueError" "ValueError.__new__" "ValueError.__init__" mroValueError sInvalidLevelInit) (MC : ErrF K mg "NoColumn" "at" "NoColumn.__init__" "IndexError" "IndexError.__new__" "IndexError.__init__" mroIndexError sNoColumnInit) (MW : ErrF K mg "WrongWidth" "width" "WrongWidth.__init__" "ValueError" "ValueError.__new__" "ValueError.__init__" mroValueError sWrongWidthInit) (X4 : Err4 K MN.C ML.C MC.C MW.C) (kE : EvK K mg) (L : LDefs K mg) (DN : DefAt K mg "is_name" sIsName ["value"] fDN fdDN) (DL0 : DefAt K mg "is_level" sIsLevel ["value"] fDL0 fdDL0) (DNN : DefAt K mg "need_name" sNeedName ["value"] fDNN fdDNN) (DNL : DefAt K mg "need_level" sNeedLevel ["value"] fDNL fdDNL) (DWD : DefAt K mg "is_width" sIsWidth ["value"] fDWD fdDWD) (DNC : DefAt K mg "need_column" sNeedColumn ["value"] fDNC fdDNC) (DCA : DefAt K mg "_law_caught" sCaught ["_law_call"] fDCA fdDCA) (mgN : mg "LONGEST_NAME" = some (.int 8 tN)) (SD : SmD P w K mg base) (hS : ∃ o, base.get? sysModules = some o) : FnG P w K mg base CX0 20 f (PySem.W.fnOf "law" "law" (defArgs sLaw) (defBody sLaw) (defScope sLaw) .none kV doc pm an (.ref cL) ct) ["_law_script"] (spLaw K Pt) := by
  obtain ⟨ocC, odC, kVC, docC, pmC, anC, cdC, ctC, oslC, eC, lkC, hcC⟩ := DCA.F.ex
  subst eC
  have D := L.DD
  have DF := L.DF
  have DP := L.DP
  have DA := L.DA
  have DII := L.DII
  have DLO := L.DLO
  have DDU := L.DDU
  have DSO := L.DSO
  have GF : FnOk P w K mg base CX0 1 L.fF L.fdF ["_law_script"] (spFeed K) := ok_feed L.DF.F T
  have GPl := ok_pickL (P := P) (w := w) (base := base) DP.F T D
  have GAn := ok_any (P := P) (w := w) (base := base) DA T D DP
  have GPd := fun z : LawIT K Pt => up_tab (P := Pt) (q := qL) mono_pick noTab_mS (b_pick (d := z.d) (c := z.c) (s := z.s) (ns := z.ns) (b := z.b) GPl)
  have GAd := fun z : LawIT K Pt => up_tab (P := Pt) (q := qL) mono_any noTab_mS (b_any (d := z.d) (c := z.c) (s := z.s) (ns := z.ns) (b := z.b) GAn)
  have GSOd := fun z : LawIT K Pt => up_tab (P := Pt) (q := qL) mono_some noTab_mS (d_some (P := P) (w := w) (base := base) (d := z.d) (c0 := z.c) (s0 := z.s) (ns := z.ns) (bb := z.b) DSO.F T D DP DA)
  have GLOd := fun m => d_looked (P := P) (w := w) (base := base) DLO.F T L.DIW DII hS m
  have GDUd := fun m => d_duelift (P := P) (w := w) (base := base) DDU.F T L.DIW DII DLO hS m
  have jxLay := jx_Lay (P := P) (w := w) (base := base) SV MN ML MC T L.DCP DN DL0 DNN DNL DNC L.DIX mgN SD kE.lay
  have jxCut := jx_Cut (P := P) (w := w) (base := base) SV MN ML MC T L.DCP DN DL0 DNN DNL DNC L.DIX mgN SD kE.cut
  have jxDike := jx_Dike (P := P) (w := w) (base := base) SV MN ML MC T L.DCP DN DL0 DNN DNL DNC L.DIX mgN SD kE.dike
  have jxFault := jx_Fault (P := P) (w := w) (base := base) SV MN ML MC T L.DCP DN DL0 DNN DNL DNC L.DIX mgN SD kE.fault
  have jxTilt := jx_Tilt (P := P) (w := w) (base := base) SV MN ML MC T L.DCP DN DL0 DNN DNL DNC L.DIX mgN SD kE.tilt
  have jxLift := jx_Lift (P := P) (w := w) (base := base) SV ML MW T L.DCP DL0 DNL DWD SD kE.lift
  refine okGc lk hcd scLaw (fun vs H Q E h => ?_) (fun A outer s H vs Q E hgd hr h => ?_)
  · obtain ⟨a, ns, e, _⟩ := h
    rw [e]; rfl
  · obtain ⟨a, ns, e, ha, hn, hPt, q⟩ := h
    subst e
    have nd := scLaw.nd
    have rest := rest_any (m := mL K Pt) (X := (cxOf CX0 P w K mg base ["_law_script", "_law_feed_here", "_law_turn", "_law_stone", "_law_goal", "_law_k", "_law_both", "_law_given", "_law_kept"] "law" (defScope sLaw) f (.ref cL) A outer s H E).nox) (rest := (defBody sLaw).tail) (TS := _) fun z : LawIT K Pt => (ss_cons (s_for PassesOwn.never rfl (i_range (a_cons (v_op op_add o_add v_int (v_callB (call_min2 rfl) k_min (by rfl) T.min (by decide +kernel) (a_cons v_int (a_cons (v_lenP (i := 0) rfl (pe_callB call_len_seq (by rfl) T.len (by decide +kernel) (pa_cons (pv 0) pa_nil))) a_nil)))) a_nil) (by rfl) T.range) (t_name (i := 2) nd rfl (Or.inl rfl))
      (ss_cons (s_set (i := 3) nd rfl (Or.inr rfl) (v_call (GPd z) mono_pick (hr.mono (by decide)) (by rfl) DP.M DP.F.kp DP.B (a_cons (vn 1) (a_cons (v_lst (a_cons v_str (a_cons v_str (a_cons (v_call (GAd z) mono_any (hr.mono (by decide)) (by rfl) DA.M DA.F.kp DA.B (a_cons (vn 1) (a_cons v_int a_nil))) a_nil)))) a_nil))))
    (ss_cons (s_set (i := 4) nd rfl (Or.inr rfl) (v_call (GPd z) mono_pick (hr.mono (by decide)) (by rfl) DP.M DP.F.kp DP.B (a_cons (vn 1) (a_cons (v_lst (a_cons v_int (a_cons v_int (a_cons (v_call (GAd z) mono_any (hr.mono (by decide)) (by rfl) DA.M DA.F.kp DA.B (a_cons (vn 1) (a_cons v_int a_nil))) a_nil)))) a_nil))))
    (ss_cons (s_set (i := 5) nd rfl (Or.inr rfl) (v_call (GPd z) mono_pick (hr.mono (by decide)) (by rfl) DP.M DP.F.kp DP.B (a_cons (vn 1) (a_cons (v_lst (a_cons v_int (a_cons v_int (a_cons v_int (a_cons (v_neg v_int) (a_cons v_int (a_cons (v_call (GAd z) mono_any (hr.mono (by decide)) (by rfl) DA.M DA.F.kp DA.B (a_cons (vn 1) (a_cons v_int a_nil))) a_nil))))))) a_nil))))
    (ss_cons (s_set (i := 6) nd rfl (Or.inl rfl) (v_lst (a_cons (v_tup (a_cons v_str (a_cons (vn 3) a_nil))) (a_cons (v_tup (a_cons v_str (a_cons (vn 4) a_nil))) a_nil))))
    (ss_cut (s_if (b_cmp (op_neD hr.units) (o_neD (KK := K)) (v_lam (k := 15) (by rfl) DCA.M DCA.F.kp lkC hcC DCA.B scCaught rfl (by first | exact .inl rfl | exact .inr (.inl rfl)) (fun s H hr => cat_caught MN ML MC MW X4 T hS _ hgd hr) mono_errc TB rfl (hasNox (hasTab z.hP)) (hr.mono (by decide)) (LamX.lamS_by (by show LamX.lamSB (defScope sLaw) _ = true; decide +kernel)) rfl (fun _ _ _ _ _ => rfl) (fun A outer s H E f c er tk hr => (v_makeJX (er := er) (dd := [.non]) tk kE.lay.mkC jxLay mono_jLay (hr.mono (by decide)) (by rfl) kE.lay.mgC kE.lay.bI kE.lay.hd (fun _ _ => .cons .non .nil) (a_cons (vn 3) (a_cons (vn 4) a_nil))))) (v_callG hgd (GLOd _) mono_looked (hr.mono (by decide)) (by rfl) DLO.M DLO.F.kp DLO.B (a_cons (vn 6) a_nil)) (nomark _))
      (ss_one (s_ret v_bl))
      ss_nil)
    (ss_cut (s_if (b_cmp (op_neD hr.units) (o_neD (KK := K)) (v_lam (k := 15) (by rfl) DCA.M DCA.F.kp lkC hcC DCA.B scCaught rfl (by first | exact .inl rfl | exact .inr (.inl rfl)) (fun s H hr => cat_caught MN ML MC MW X4 T hS _ hgd hr) mono_errc TB rfl (hasNox (hasTab z.hP)) (hr.mono (by decide)) (LamX.lamS_by (by show LamX.lamSB (defScope sLaw) _ = true; decide +kernel)) rfl (fun _ _ _ _ _ => rfl) (fun A outer s H E f c er tk hr => (v_makeJX (er := er) (dd := [.non]) tk kE.cut.mkC jxCut mono_jCut (hr.mono (by decide)) (by rfl) kE.cut.mgC kE.cut.bI kE.cut.hd (fun _ _ => .cons .non .nil) (a_cons (vn 3) (a_cons (vn 4) a_nil))))) (v_callG hgd (GLOd _) mono_looked (hr.mono (by decide)) (by rfl) DLO.M DLO.F.kp DLO.B (a_cons (vn 6) a_nil)) (nomark _))
      (ss_one (s_ret v_bl))
      ss_nil)
    (ss_cut (s_if (b_cmp (op_neD hr.units) (o_neD (KK := K)) (v_lam (k := 15) (by rfl) DCA.M DCA.F.kp lkC hcC DCA.B scCaught rfl (by first | exact .inl rfl | exact .inr (.inl rfl)) (fun s H hr => cat_caught MN ML MC MW X4 T hS _ hgd hr) mono_errc TB rfl (hasNox (hasTab z.hP)) (hr.mono (by decide)) (LamX.lamS_by (by show LamX.lamSB (defScope sLaw) _ = true; decide +kernel)) rfl (fun _ _ _ _ _ => rfl) (fun A outer s H E f c er tk hr => (v_makeJX (er := er) (dd := []) tk kE.dike.mkC jxDike mono_jDike (hr.mono (by decide)) (by rfl) kE.dike.mgC kE.dike.bI kE.dike.hd (fun _ _ => .nil) (a_cons (vn 3) (a_cons (vn 5) (a_cons (vn 4) a_nil)))))) (v_callG hgd (GLOd _) mono_looked (hr.mono (by decide)) (by rfl) DLO.M DLO.F.kp DLO.B (a_cons (v_lst (a_cons (v_ix ix_list o_ixL (vn 6) v_int (fun _ _ => rfl)) (a_cons (v_tup (a_cons v_str (a_cons (vn 5) a_nil))) (a_cons (v_ix ix_list o_ixL (vn 6) v_int (fun _ _ => rfl)) a_nil)))) a_nil)) (nomark _))
      (ss_one (s_ret v_bl))
      ss_nil)
    (ss_cut (s_if (b_cmp (op_neD hr.units) (o_neD (KK := K)) (v_lam (k := 15) (by rfl) DCA.M DCA.F.kp lkC hcC DCA.B scCaught rfl (by first | exact .inl rfl | exact .inr (.inl rfl)) (fun s H hr => cat_caught MN ML MC MW X4 T hS _ hgd hr) mono_errc TB rfl (hasNox (hasTab z.hP)) (hr.mono (by decide)) (LamX.lamS_by (by show LamX.lamSB (defScope sLaw) _ = true; decide +kernel)) rfl (fun _ _ _ _ _ => rfl) (fun A outer s H E f c er tk hr => (v_makeJX (er := er) (dd := []) tk kE.fault.mkC jxFault mono_jFault (hr.mono (by decide)) (by rfl) kE.fault.mgC kE.fault.bI kE.fault.hd (fun _ _ => .nil) (a_cons (vn 5) (a_cons (vn 4) a_nil))))) (v_callG hgd (GLOd _) mono_looked (hr.mono (by decide)) (by rfl) DLO.M DLO.F.kp DLO.B (a_cons (v_lst (a_cons (v_tup (a_cons v_str (a_cons (vn 5) a_nil))) (a_cons (v_ix ix_list o_ixL (vn 6) v_int (fun _ _ => rfl)) a_nil))) a_nil)) (nomark _))
      (ss_one (s_ret v_bl))
      ss_nil)
    (ss_cut (s_if (b_cmp (op_neD hr.units) (o_neD (KK := K)) (v_lam (k := 15) (by rfl) DCA.M DCA.F.kp lkC hcC DCA.B scCaught rfl (by first | exact .inl rfl | exact .inr (.inl rfl)) (fun s H hr => cat_caught MN ML MC MW X4 T hS _ hgd hr) mono_errc TB rfl (hasNox (hasTab z.hP)) (hr.mono (by decide)) (LamX.lamS_by (by show LamX.lamSB (defScope sLaw) _ = true; decide +kernel)) rfl (fun _ _ _ _ _ => rfl) (fun A outer s H E f c er tk hr => (v_makeJX (er := er) (dd := []) tk kE.tilt.mkC jxTilt mono_jTilt (hr.mono (by decide)) (by rfl) kE.tilt.mgC kE.tilt.bI kE.tilt.hd (fun _ _ => .nil) (a_cons (vn 4) a_nil)))) (v_callG hgd (GLOd _) mono_looked (hr.mono (by decide)) (by rfl) DLO.M DLO.F.kp DLO.B (a_cons (v_slice sl_list l_list (vn 6) (o_some v_int) o_none) a_nil)) (nomark _))
      (ss_one (s_ret v_bl))
      ss_nil)
    (ss_cons (s_set (i := 7) nd rfl (Or.inr rfl) (v_call (GSOd z) mono_some (hr.mono (by decide)) (by rfl) DSO.M DSO.F.kp DSO.B (a_cons (vn 1) a_nil)))
    (ss_cons (s_set (i := 8) nd rfl (Or.inl rfl) (v_callB (call_repr hS hgd (room200 hr :)) k_repr (by rfl) T.repr (by decide +kernel) (a_cons (vn 7) a_nil)))
    (ss_one (s_if (WV.b (w_or (b_cmp (op_neD hr.units) (o_neD (KK := K)) (v_lam (k := 15) (by rfl) DCA.M DCA.F.kp lkC hcC DCA.B scCaught rfl (by first | exact .inl rfl | exact .inr (.inl rfl)) (fun s H hr => cat_caught MN ML MC MW X4 T hS _ hgd hr) mono_errc TB rfl (hasNox (hasTab z.hP)) (hr.mono (by decide)) (LamX.lamS_by (by show LamX.lamSB (defScope sLaw) _ = true; decide +kernel)) rfl (fun _ _ _ _ _ => rfl) (fun A outer s H E f c er tk hr => (v_makeJX (er := er) (dd := []) tk kE.lift.mkC jxLift mono_jLift (hr.mono (by decide)) (by rfl) kE.lift.mgC kE.lift.bI kE.lift.hd (fun _ _ => .nil) (a_cons (vn 7) a_nil)))) (v_callG hgd (GDUd _) mono_duelift (hr.mono (by decide)) (by rfl) DDU.M DDU.F.kp DDU.B (a_cons (vn 7) a_nil)) (nomark _)) (w_or1 (b_cmp op_ne o_neS (v_callB (call_repr hS hgd (room200 hr :)) k_repr (by rfl) T.repr (by decide +kernel) (a_cons (vn 7) a_nil)) (vn 8) (nomark _)))))
      (ss_one (s_ret v_bl))
      ss_nil))))))))))))))
    (ss_one (s_ret v_bl)))
    obtain ⟨t, p, hz⟩ := rest
    refine ⟨_, pss_cons (ps_set (i := 1) nd rfl (Or.inl rfl) (pe_call GF (hr.mono (by decide)) (by rfl) DF.M DF.F.kp DF.B .nil pass0 (pa_cons (pv 0) pa_nil))) p, ?_⟩
    refine ⟨_, rfl, a, ns, rfl, ha, hn, fun d c H1 FD s1 nd1 => ?_⟩
    have eP : H1 Pt = some (.tbl #[]) := s1 _ _ hPt
    have st : ∃ b, (mS K d c a ns b).St 0 H1 ∧ ¬ (mS K d c a ns b).g Pt := by
      have nd' : Pt ≠ d := fun z => by
        obtain ⟨l, _, h⟩ := FD.fd
        rw [z, h] at eP
        cases eP
      have nc : Pt ≠ c := fun z => by
        rw [z, FD.cl] at eP
        cases eP
      rcases ha with hA | hK
      · have na : Pt ≠ a := fun z => by
          rcases hA with hA | ⟨o, hA⟩ <;> (rw [← z, hPt] at hA; cases hA)
        refine ⟨true, ⟨FD, s1.seq (.inl hA), fun _ => ?_, (fun z => by cases z)⟩, fun z => ?_⟩
        · rcases hA with hA | ⟨o, hA⟩
          · rw [s1 _ _ hA]; exact fun z => nomatch z
          · rw [s1 _ _ hA]; exact fun z => nomatch z
        · rcases z with z | z | ⟨_, z⟩
          · exact nd' z
          · exact nc z
          · exact na z
      · refine ⟨false, ⟨FD, .inr hK, (fun z => by cases z), (fun _ H' => .inr hK)⟩, fun z => ?_⟩
        rcases z with z | z | ⟨z, _⟩
        · exact nd' z
        · exact nc z
        · cases z
    obtain ⟨b, st, hb⟩ := st
    refine hz ⟨d, c, a, ns, b, hb⟩ ["_law_script", "_law_feed_here", "_law_turn", "_law_stone", "_law_goal", "_law_k", "_law_both", "_law_given", "_law_kept"] a d H1 Q _ ⟨st, LamX.TabS.nil eP⟩ q rfl ?_
    have many : (8 + (if (ns.length : Int) < 16 then (ns.length : Int) else 16)).toNat ≤ 24 ∧ 0 ≤ 8 + (if (ns.length : Int) < 16 then (ns.length : Int) else 16) := by split <;> omega
    refine ⟨rfl, 16, _, rfl, 8, _, rfl, rfl, _, rfl, by omega, by omega, fun i env' n' => n' ≤ i * 400 ∧ ∃ s2 s3 s4 s5 s6 s7 s8, env' = [.val (.ptr a), .val (.ptr d), s2, s3, s4, s5, s6, s7, s8], ⟨by omega, _, _, _, _, _, _, _, rfl⟩, fun i x env' n' hx ⟨hn', s2, s3, s4, s5, s6, s7, s8, e⟩ => ?_, fun env' n' h => rfl⟩
    subst e
    have hi : i < 24 := by
      have := (List.getElem?_eq_some_iff.mp hx).1
      rw [range_len] at this
      omega
    have c1 : cost 1 = 5 := rfl
    refine ⟨_, rfl, ?_⟩
    refine ⟨_, rfl, _, rfl, 1, rfl, by decide, by omega, fun x1 n1 hx1 hn1 => ⟨(by show 3 ≤ sizeLine; decide), _, rfl, by omega, (by show 0 < 3; decide), (by show 3 < 1000000; decide), fun y n2 hy hn2 => ?_⟩⟩
    have vy : Val y ∧ smB y = true := by
      simp only [List.mem_cons, List.not_mem_nil, or_false] at hy
      rcases hy with e | e | e <;> subst e
      · exact val_a
      · exact val_a
      · exact val_any hx1 (by decide)
    refine ⟨_, rfl, _, rfl, 1, rfl, by decide, by omega, fun x2 n3 hx2 hn3 => ⟨(by show 3 ≤ sizeLine; decide), _, rfl, by omega, (by show 0 < 3; decide), (by show 3 < 1000000; decide), fun z n4 hz hn4 => ?_⟩⟩
    have vz : Val z := by
      simp only [List.mem_cons, List.not_mem_nil, or_false] at hz
      rcases hz with e | e | e <;> subst e
      · exact val_int (by decide)
      · exact val_int (by decide)
      · exact (val_any hx2 (by decide)).1
    refine ⟨_, rfl, 1, rfl, _, rfl, 1, rfl, by decide, by omega, fun x3 n5 hx3 hn5 => ⟨(by show 6 ≤ sizeLine; decide), _, rfl, by omega, (by show 0 < 6; decide), (by show 6 < 1000000; decide), fun k n6 hk hn6 => ?_⟩⟩
    have vk : Val k := by
      simp only [List.mem_cons, List.not_mem_nil, or_false] at hk
      rcases hk with e | e | e | e | e | e <;> subst e
      · exact val_int (by decide)
      · exact val_int (by decide)
      · exact val_int (by decide)
      · exact val_int (by decide)
      · exact val_int (by decide)
      · exact (val_any hx3 (by decide)).1
    refine ⟨_, rfl, (by show 2 ≤ sizeLine; decide), _, rfl, (by show 2 ≤ sizeLine; decide), (by show 2 ≤ sizeLine; decide), ?_⟩
    have W : ∃ W0 : SK, W0 = fun env' n' => n' = n6 ∧ env' = [.val (.ptr a), .val (.ptr d), .val x, .val y, .val z, .val k, .val (.lst ([(("name" : Str), y), (("level" : Str), z)].map itemD)), s7, s8] := ⟨_, rfl⟩
    obtain ⟨W0, eW⟩ := W
    have W1 : W0 [.val (.ptr a), .val (.ptr d), .val x, .val y, .val z, .val k, .val (.lst ([(("name" : Str), y), (("level" : Str), z)].map itemD)), s7, s8] n6 := by rw [eW]; exact ⟨rfl, rfl⟩
    refine ⟨W0, ?_, fun env' n' hw => ?_⟩
    · refine lam_if ?_
      have cd := cm_look (l := [(("name" : Str), y), (("level" : Str), z)]) (so_cons (so_n vy.1 vy.2) (so_cons (so_l vz) so_nil))
      refine ⟨_, rfl, _, rfl, lay_ok vy.2 vy.1 vz ⟨_, rfl, [(("name" : Str), y), (("level" : Str), z)], rfl, (so_cons (so_n vy.1 vy.2) (so_cons (so_l vz) so_nil)), cd.1, cd.1, cd.2, cd.2, _, rfl, ?_⟩⟩
      rw [cm_same cd]
      exact iteF W1
    rw [eW] at hw
    obtain ⟨en, e⟩ := hw
    subst en; subst e
    refine ⟨W0, ?_, fun env' n' hw => ?_⟩
    · refine lam_if ?_
      have cd := cm_look (l := [(("name" : Str), y), (("level" : Str), z)]) (so_cons (so_n vy.1 vy.2) (so_cons (so_l vz) so_nil))
      refine ⟨_, rfl, _, rfl, cut_ok vy.2 vy.1 vz ⟨_, rfl, [(("name" : Str), y), (("level" : Str), z)], rfl, (so_cons (so_n vy.1 vy.2) (so_cons (so_l vz) so_nil)), cd.1, cd.1, cd.2, cd.2, _, rfl, ?_⟩⟩
      rw [cm_same cd]
      exact iteF W1
    rw [eW] at hw
    obtain ⟨en, e⟩ := hw
    subst en; subst e
    refine ⟨W0, ?_, fun env' n' hw => ?_⟩
    · refine lam_if ?_
      have cd := cm_look (l := [(("name" : Str), y), (("column" : Str), k), (("level" : Str), z)]) (so_cons (so_n vy.1 vy.2) (so_cons (so_c vk) (so_cons (so_l vz) so_nil)))
      refine ⟨_, rfl, _, rfl, _, rfl, dike_ok vy.2 vy.1 vk vz ⟨_, rfl, _, _, _, rfl, rfl, rfl, _, rfl, (by show 2 ≤ sizeLine; decide), _, rfl, _, _, _, rfl, rfl, rfl, (by show 3 ≤ sizeLine; decide), [(("name" : Str), y), (("column" : Str), k), (("level" : Str), z)], rfl, (so_cons (so_n vy.1 vy.2) (so_cons (so_c vk) (so_cons (so_l vz) so_nil))), cd.1, cd.1, cd.2, cd.2, _, rfl, ?_⟩⟩
      rw [cm_same cd]
      exact iteF W1
    rw [eW] at hw
    obtain ⟨en, e⟩ := hw
    subst en; subst e
    refine ⟨W0, ?_, fun env' n' hw => ?_⟩
    · refine lam_if ?_
      have cd := cm_look (l := [(("column" : Str), k), (("level" : Str), z)]) (so_cons (so_c vk) (so_cons (so_l vz) so_nil))
      refine ⟨_, rfl, _, rfl, fault_ok vk vz ⟨_, rfl, (by show 2 ≤ sizeLine; decide), _, rfl, _, _, _, rfl, rfl, rfl, (by show 2 ≤ sizeLine; decide), [(("column" : Str), k), (("level" : Str), z)], rfl, (so_cons (so_c vk) (so_cons (so_l vz) so_nil)), cd.1, cd.1, cd.2, cd.2, _, rfl, ?_⟩⟩
      rw [cm_same cd]
      exact iteF W1
    rw [eW] at hw
    obtain ⟨en, e⟩ := hw
    subst en; subst e
    refine ⟨W0, ?_, fun env' n' hw => ?_⟩
    · refine lam_if ?_
      have cd := cm_look (l := [(("level" : Str), z)]) (so_cons (so_l vz) so_nil)
      refine ⟨_, rfl, tilt_ok vz ⟨_, rfl, _, rfl, _, rfl, [(("level" : Str), z)], rfl, (so_cons (so_l vz) so_nil), cd.1, cd.1, cd.2, cd.2, _, rfl, ?_⟩⟩
      rw [cm_same cd]
      exact iteF W1
    rw [eW] at hw
    obtain ⟨en, e⟩ := hw
    subst en; subst e
    refine ⟨_, rfl, rfl, by omega, fun v n7 vl hn7 => ⟨_, rfl, _, rfl, vl.v.t, ?_⟩⟩
    have cd := cm_dlift vl
    refine lam_ifo ?_
    refine ⟨_, rfl, lift_ok vl ⟨_, rfl, v, rfl, vl, cd.1, cd.1, cd.2, cd.2, _, rfl, ?_⟩⟩
    rw [cm_same cd]
    refine iteF ⟨_, rfl, _, rfl, vl.v.t, _, rfl, rfl, _, rfl, ?_⟩
    rw [show eqS (.str (pd v).shown) (.str (pd v).shown) = true by simp [eqS]]
    exact iteF ⟨by omega, _, _, _, _, _, _, _, rfl⟩
end
end Rk

set_option Elab.async false
set_option linter.all false
set_option maxRecDepth 100000
set_option maxHeartbeats 1000000
namespace Rk
open PySem L2 DL
section
variable {P : Program} {w : World} {K : PySem.W.Frag} {mg : Str → Option Value} {base : Heap}
/-! ### what except and isinstance ask of an own error's class -/
theorem own_class {K : PySem.W.Frag} {C : Addr} (hi : PySem.W.isClsIn K C = true) (ht : PySem.W.typeIn K (.ref C) = some (.type "type")) : PySem.W.kitCls K (.ref C) (.ref C) = PySem.W.subIn K (.ref C) (.ref C) := by
  have hs : (PySem.W.clsIn K C).isSome = true := hi
  show (if ((PySem.W.clsIn K C).isSome && PySem.W.typeIn K (.ref C) == some (.type "type")) = true then _ else _) = _
  rw [hs, ht, if_pos (by rfl)]
theorem exm_own {K : PySem.W.Frag} {C : Addr} (hb : PySem.W.subIn K (.ref C) (.type "BaseException") = some true) (hi : PySem.W.isClsIn K C = true) (ht : PySem.W.typeIn K (.ref C) = some (.type "type")) (hs : PySem.W.subIn K (.ref C) (.ref C) = some true) : PySem.W.exmOne K (.ref C) (.ref C) = some true := by
  show (if (PySem.W.subIn K (.ref C) (.type "BaseException") == some true) = true then PySem.W.kitCls K (.ref C) (.ref C) else none) = some true
  rw [hb, if_pos (by rfl), own_class hi ht, hs]
theorem kit_two {K : PySem.W.Frag} {C C' : Addr} (hi : PySem.W.isClsIn K C' = true) (ht : PySem.W.typeIn K (.ref C') = some (.type "type")) : PySem.W.kitCls K (.ref C) (.ref C') = PySem.W.subIn K (.ref C) (.ref C') := by
  have hs : (PySem.W.clsIn K C').isSome = true := hi
  show (if ((PySem.W.clsIn K C').isSome && PySem.W.typeIn K (.ref C') == some (.type "type")) = true then _ else _) = _
  rw [hs, ht, if_pos (by rfl)]
theorem exm_two {K : PySem.W.Frag} {C C' : Addr} {b : Bool} (hb : PySem.W.subIn K (.ref C') (.type "BaseException") = some true) (hi : PySem.W.isClsIn K C' = true) (ht : PySem.W.typeIn K (.ref C') = some (.type "type")) (hs : PySem.W.subIn K (.ref C) (.ref C') = some b) : PySem.W.exmOne K (.ref C) (.ref C') = some b := by
  show (if (PySem.W.subIn K (.ref C') (.type "BaseException") == some true) = true then PySem.W.kitCls K (.ref C) (.ref C') else none) = some b
  rw [hb, if_pos (by rfl), kit_two hi ht, hs]
end
set_option maxHeartbeats 8000000 in
theorem all_mk {l : PySem.W.OpenLaw} {w : World} {K : PySem.W.Frag} {h : Heap} {mg : Str → Option Value} {fa : Addr} (X : K.In h) (G : h.Ns mainGlobals mg) (hfa : mg "law" = some (.ref fa))
    {f0 f1 f2 f3 f4 f5 f6 f7 f8 f9 f10 f11 f12 f13 f14 f15 f16 f17 f18 f19 f20 cL Pt aZ aLa aKLa fILa fQLa aCu aKCu fICu fQCu aDi fIDi fQDi aLi fILi fQLi aFa fIFa fQFa aTi fITi fQTi aN NaN fIaN aL NaL fIaL aP NaP fIaP aW NaW fIaW : Addr}
    {od0 an0 od1 an1 od2 an2 od3 an3 od4 an4 od5 an5 od6 an6 od7 an7 od8 an8 od9 an9 od10 an10 od11 an11 od12 an12 od13 an13 od14 an14 od15 an15 od16 an16 od17 an17 od18 an18 od19 an19 od20 an20 odILa anILa odQLa anQLa odICu anICu odQCu anQCu odIDi anIDi odQDi anQDi odILi anILi odQLi anQLi odIFa anIFa odQFa anQFa odITi anITi odQTi anQTi ddaN odIaN anIaN ddaL odIaL anIaL ddaP odIaP anIaP ddaW odIaW anIaW : Option Addr}
    {sl0 sl1 sl2 sl3 sl4 sl5 sl6 sl7 sl8 sl9 sl10 sl11 sl12 sl13 sl14 sl15 sl16 sl17 sl18 sl19 sl20 slILa slQLa slICu slQCu slIDi slQDi slILi slQLi slIFa slQFa slITi slQTi slIaN slIaL slIaP slIaW : Array (Option Value)}
    {oc0 dc0 pm0 cd0 ct0 kV0 oc1 dc1 pm1 cd1 ct1 kV1 oc2 dc2 pm2 cd2 ct2 kV2 oc3 dc3 pm3 cd3 ct3 kV3 oc4 dc4 pm4 cd4 ct4 kV4 oc5 dc5 pm5 cd5 ct5 kV5 oc6 dc6 pm6 cd6 ct6 kV6 oc7 dc7 pm7 cd7 ct7 kV7 oc8 dc8 pm8 cd8 ct8 kV8 oc9 dc9 pm9 cd9 ct9 kV9 oc10 dc10 pm10 cd10 ct10 kV10 oc11 dc11 pm11 cd11 ct11 kV11 oc12 dc12 pm12 cd12 ct12 kV12 oc13 dc13 pm13 cd13 ct13 kV13 oc14 dc14 pm14 cd14 ct14 kV14 oc15 dc15 pm15 cd15 ct15 kV15 oc16 dc16 pm16 cd16 ct16 kV16 oc17 dc17 pm17 cd17 ct17 kV17 oc18 dc18 pm18 cd18 ct18 kV18 oc19 dc19 pm19 cd19 ct19 kV19 oc20 dc20 pm20 cd20 ct20 kV20 ocILa dcILa pmILa cdILa ctILa ocQLa dcQLa pmQLa cdQLa ctQLa kVQLa ocICu dcICu pmICu cdICu ctICu ocQCu dcQCu pmQCu cdQCu ctQCu kVQCu ocIDi dcIDi pmIDi cdIDi ctIDi kVIDi ocQDi dcQDi pmQDi cdQDi ctQDi kVQDi ocILi dcILi pmILi cdILi ctILi kVILi ocQLi dcQLi pmQLi cdQLi ctQLi kVQLi ocIFa dcIFa pmIFa cdIFa ctIFa kVIFa ocQFa dcQFa pmQFa cdQFa ctQFa kVQFa ocITi dcITi pmITi cdITi ctITi kVITi ocQTi dcQTi pmQTi cdQTi ctQTi kVQTi ocIaN dcIaN pmIaN cdIaN ctIaN kVIaN ocIaL dcIaL pmIaL cdIaL ctIaL kVIaL ocIaP dcIaP pmIaP cdIaP ctIaP kVIaP ocIaW dcIaW pmIaW cdIaW ctIaW kVIaW : Value}
    {tLONGEST_NAME tM : Tok}
    {nmaN qaN nmaL qaL nmaP qaP nmaW qaW : Str}
    {bsaN subaN bsaL subaL bsaP subaP bsaW subaW : List Value}
    {snaN snaL snaP snaW : List Str}
    {abaN abaL abaP abaW : Bool}
    {colaN colaL colaP colaW : Option Bool}
    {m0aN m1aN m2aN m3aN m5aN m0aL m1aL m2aL m3aL m5aL m0aP m1aP m2aP m3aP m5aP m0aW m1aW m2aW m3aW m5aW : Option Value}
    (a0 : PySem.W.nsIn K mainGlobals "is_name" = some (some (.ref f0)))
    (l0 : K.lookup f0 = some ⟨oc0, od0, .func (PySem.W.fnOf "is_name" "is_name" (defArgs sIsName) (defBody sIsName) (defScope sIsName) .none kV0 dc0 pm0 an0 cd0 ct0), sl0⟩)
    (c0 : PySem.W.codeIn K cd0 "is_name" = true)
    (k0 : PySem.W.keepIn K (.ref f0) = true)
    (a1 : PySem.W.nsIn K mainGlobals "is_level" = some (some (.ref f1)))
    (l1 : K.lookup f1 = some ⟨oc1, od1, .func (PySem.W.fnOf "is_level" "is_level" (defArgs sIsLevel) (defBody sIsLevel) (defScope sIsLevel) .none kV1 dc1 pm1 an1 cd1 ct1), sl1⟩)
    (c1 : PySem.W.codeIn K cd1 "is_level" = true)
    (k1 : PySem.W.keepIn K (.ref f1) = true)
    (a2 : PySem.W.nsIn K mainGlobals "is_index" = some (some (.ref f2)))
    (l2 : K.lookup f2 = some ⟨oc2, od2, .func (PySem.W.fnOf "is_index" "is_index" (defArgs sIsIndex) (defBody sIsIndex) (defScope sIsIndex) .none kV2 dc2 pm2 an2 cd2 ct2), sl2⟩)
    (c2 : PySem.W.codeIn K cd2 "is_index" = true)
    (k2 : PySem.W.keepIn K (.ref f2) = true)
    (a3 : PySem.W.nsIn K mainGlobals "need_name" = some (some (.ref f3)))
    (l3 : K.lookup f3 = some ⟨oc3, od3, .func (PySem.W.fnOf "need_name" "need_name" (defArgs sNeedName) (defBody sNeedName) (defScope sNeedName) .none kV3 dc3 pm3 an3 cd3 ct3), sl3⟩)
    (c3 : PySem.W.codeIn K cd3 "need_name" = true)
    (k3 : PySem.W.keepIn K (.ref f3) = true)
    (a4 : PySem.W.nsIn K mainGlobals "need_level" = some (some (.ref f4)))
    (l4 : K.lookup f4 = some ⟨oc4, od4, .func (PySem.W.fnOf "need_level" "need_level" (defArgs sNeedLevel) (defBody sNeedLevel) (defScope sNeedLevel) .none kV4 dc4 pm4 an4 cd4 ct4), sl4⟩)
    (c4 : PySem.W.codeIn K cd4 "need_level" = true)
    (k4 : PySem.W.keepIn K (.ref f4) = true)
    (a5 : PySem.W.nsIn K mainGlobals "is_width" = some (some (.ref f5)))
    (l5 : K.lookup f5 = some ⟨oc5, od5, .func (PySem.W.fnOf "is_width" "is_width" (defArgs sIsWidth) (defBody sIsWidth) (defScope sIsWidth) .none kV5 dc5 pm5 an5 cd5 ct5), sl5⟩)
    (c5 : PySem.W.codeIn K cd5 "is_width" = true)
    (k5 : PySem.W.keepIn K (.ref f5) = true)
    (a6 : PySem.W.nsIn K mainGlobals "need_column" = some (some (.ref f6)))
    (l6 : K.lookup f6 = some ⟨oc6, od6, .func (PySem.W.fnOf "need_column" "need_column" (defArgs sNeedColumn) (defBody sNeedColumn) (defScope sNeedColumn) .none kV6 dc6 pm6 an6 cd6 ct6), sl6⟩)
    (c6 : PySem.W.codeIn K cd6 "need_column" = true)
    (k6 : PySem.W.keepIn K (.ref f6) = true)
    (a7 : PySem.W.nsIn K mainGlobals "is_span" = some (some (.ref f7)))
    (l7 : K.lookup f7 = some ⟨oc7, od7, .func (PySem.W.fnOf "is_span" "is_span" (defArgs sIsSpan) (defBody sIsSpan) (defScope sIsSpan) .none kV7 dc7 pm7 an7 cd7 ct7), sl7⟩)
    (c7 : PySem.W.codeIn K cd7 "is_span" = true)
    (k7 : PySem.W.keepIn K (.ref f7) = true)
    (a8 : PySem.W.nsIn K mainGlobals "need_span_or_none" = some (some (.ref f8)))
    (l8 : K.lookup f8 = some ⟨oc8, od8, .func (PySem.W.fnOf "need_span_or_none" "need_span_or_none" (defArgs sNeedSpanOrNone) (defBody sNeedSpanOrNone) (defScope sNeedSpanOrNone) .none kV8 dc8 pm8 an8 cd8 ct8), sl8⟩)
    (c8 : PySem.W.codeIn K cd8 "need_span_or_none" = true)
    (k8 : PySem.W.keepIn K (.ref f8) = true)
    (a9 : PySem.W.nsIn K mainGlobals "copied" = some (some (.ref f9)))
    (l9 : K.lookup f9 = some ⟨oc9, od9, .func (PySem.W.fnOf "copied" "copied" (defArgs sCopied) (defBody sCopied) (defScope sCopied) .none kV9 dc9 pm9 an9 cd9 ct9), sl9⟩)
    (c9 : PySem.W.codeIn K cd9 "copied" = true)
    (k9 : PySem.W.keepIn K (.ref f9) = true)
    (a10 : PySem.W.nsIn K mainGlobals "_law_feed" = some (some (.ref f10)))
    (l10 : K.lookup f10 = some ⟨oc10, od10, .func (PySem.W.fnOf "_law_feed" "_law_feed" (defArgs sFeed) (defBody sFeed) (defScope sFeed) .none kV10 dc10 pm10 an10 cd10 ct10), sl10⟩)
    (c10 : PySem.W.codeIn K cd10 "_law_feed" = true)
    (k10 : PySem.W.keepIn K (.ref f10) = true)
    (a11 : PySem.W.nsIn K mainGlobals "_law_draw" = some (some (.ref f11)))
    (l11 : K.lookup f11 = some ⟨oc11, od11, .func (PySem.W.fnOf "_law_draw" "_law_draw" (defArgs sDraw) (defBody sDraw) (defScope sDraw) .none kV11 dc11 pm11 an11 cd11 ct11), sl11⟩)
    (c11 : PySem.W.codeIn K cd11 "_law_draw" = true)
    (k11 : PySem.W.keepIn K (.ref f11) = true)
    (a12 : PySem.W.nsIn K mainGlobals "_law_pick" = some (some (.ref f12)))
    (l12 : K.lookup f12 = some ⟨oc12, od12, .func (PySem.W.fnOf "_law_pick" "_law_pick" (defArgs sPick) (defBody sPick) (defScope sPick) .none kV12 dc12 pm12 an12 cd12 ct12), sl12⟩)
    (c12 : PySem.W.codeIn K cd12 "_law_pick" = true)
    (k12 : PySem.W.keepIn K (.ref f12) = true)
    (a13 : PySem.W.nsIn K mainGlobals "_law_any" = some (some (.ref f13)))
    (l13 : K.lookup f13 = some ⟨oc13, od13, .func (PySem.W.fnOf "_law_any" "_law_any" (defArgs sAny) (defBody sAny) (defScope sAny) .none kV13 dc13 pm13 an13 cd13 ct13), sl13⟩)
    (c13 : PySem.W.codeIn K cd13 "_law_any" = true)
    (k13 : PySem.W.keepIn K (.ref f13) = true)
    (a14 : PySem.W.nsIn K mainGlobals "_law_is_int" = some (some (.ref f14)))
    (l14 : K.lookup f14 = some ⟨oc14, od14, .func (PySem.W.fnOf "_law_is_int" "_law_is_int" (defArgs sIsInt) (defBody sIsInt) (defScope sIsInt) .none kV14 dc14 pm14 an14 cd14 ct14), sl14⟩)
    (c14 : PySem.W.codeIn K cd14 "_law_is_int" = true)
    (k14 : PySem.W.keepIn K (.ref f14) = true)
    (a15 : PySem.W.nsIn K mainGlobals "_law_is_word" = some (some (.ref f15)))
    (l15 : K.lookup f15 = some ⟨oc15, od15, .func (PySem.W.fnOf "_law_is_word" "_law_is_word" (defArgs sIsWord) (defBody sIsWord) (defScope sIsWord) .none kV15 dc15 pm15 an15 cd15 ct15), sl15⟩)
    (c15 : PySem.W.codeIn K cd15 "_law_is_word" = true)
    (k15 : PySem.W.keepIn K (.ref f15) = true)
    (a16 : PySem.W.nsIn K mainGlobals "_law_caught" = some (some (.ref f16)))
    (l16 : K.lookup f16 = some ⟨oc16, od16, .func (PySem.W.fnOf "_law_caught" "_law_caught" (defArgs sCaught) (defBody sCaught) (defScope sCaught) .none kV16 dc16 pm16 an16 cd16 ct16), sl16⟩)
    (c16 : PySem.W.codeIn K cd16 "_law_caught" = true)
    (k16 : PySem.W.keepIn K (.ref f16) = true)
    (a17 : PySem.W.nsIn K mainGlobals "_law_looked" = some (some (.ref f17)))
    (l17 : K.lookup f17 = some ⟨oc17, od17, .func (PySem.W.fnOf "_law_looked" "_law_looked" (defArgs sLooked) (defBody sLooked) (defScope sLooked) .none kV17 dc17 pm17 an17 cd17 ct17), sl17⟩)
    (c17 : PySem.W.codeIn K cd17 "_law_looked" = true)
    (k17 : PySem.W.keepIn K (.ref f17) = true)
    (a18 : PySem.W.nsIn K mainGlobals "_law_due_lift" = some (some (.ref f18)))
    (l18 : K.lookup f18 = some ⟨oc18, od18, .func (PySem.W.fnOf "_law_due_lift" "_law_due_lift" (defArgs sDueLift) (defBody sDueLift) (defScope sDueLift) .none kV18 dc18 pm18 an18 cd18 ct18), sl18⟩)
    (c18 : PySem.W.codeIn K cd18 "_law_due_lift" = true)
    (k18 : PySem.W.keepIn K (.ref f18) = true)
    (a19 : PySem.W.nsIn K mainGlobals "_law_some_lifts" = some (some (.ref f19)))
    (l19 : K.lookup f19 = some ⟨oc19, od19, .func (PySem.W.fnOf "_law_some_lifts" "_law_some_lifts" (defArgs sSomeLifts) (defBody sSomeLifts) (defScope sSomeLifts) .none kV19 dc19 pm19 an19 cd19 ct19), sl19⟩)
    (c19 : PySem.W.codeIn K cd19 "_law_some_lifts" = true)
    (k19 : PySem.W.keepIn K (.ref f19) = true)
    (a20 : PySem.W.nsIn K mainGlobals "law" = some (some (.ref f20)))
    (l20 : K.lookup f20 = some ⟨oc20, od20, .func (PySem.W.fnOf "law" "law" (defArgs sLaw) (defBody sLaw) (defScope sLaw) .none kV20 dc20 pm20 an20 cd20 ct20), sl20⟩)
    (c20 : PySem.W.codeIn K cd20 "law" = true)
    (k20 : PySem.W.keepIn K (.ref f20) = true)
    (z_int : PySem.W.nsIn K mainGlobals "int" = some none)
    (z_len : PySem.W.nsIn K mainGlobals "len" = some none)
    (z_abs : PySem.W.nsIn K mainGlobals "abs" = some none)
    (z_range : PySem.W.nsIn K mainGlobals "range" = some none)
    (z_tuple : PySem.W.nsIn K mainGlobals "tuple" = some none)
    (z_list : PySem.W.nsIn K mainGlobals "list" = some none)
    (z_str : PySem.W.nsIn K mainGlobals "str" = some none)
    (z_bool : PySem.W.nsIn K mainGlobals "bool" = some none)
    (z_isinstance : PySem.W.nsIn K mainGlobals "isinstance" = some none)
    (z_all : PySem.W.nsIn K mainGlobals "all" = some none)
    (z_any : PySem.W.nsIn K mainGlobals "any" = some none)
    (z_min : PySem.W.nsIn K mainGlobals "min" = some none)
    (z_sum : PySem.W.nsIn K mainGlobals "sum" = some none)
    (z_zip : PySem.W.nsIn K mainGlobals "zip" = some none)
    (z_dict : PySem.W.nsIn K mainGlobals "dict" = some none)
    (z_repr : PySem.W.nsIn K mainGlobals "repr" = some none)
    (z_IndexError : PySem.W.nsIn K mainGlobals "IndexError" = some none)
    (tbL : PySem.W.tabIn K "law" = some (cL, Pt))
    (zLONGEST_NAME : PySem.W.nsIn K mainGlobals "LONGEST_NAME" = some (some (.int 8 tLONGEST_NAME)))
    (zaZ : PySem.W.nsIn K mainGlobals "Section" = some (some (.ref aZ)))
    (rdZ : PySem.W.readsIn K aZ (.type "type") = true)
    (gaZ : PySem.W.specialIn K (.ref aZ) "__getattribute__" = some (some (.builtin "type.__getattribute__")))
    (mcZ : PySem.W.findCls K (.ref aZ) (.type "type") "MOST_COLUMNS" = some (.val (.int 12 tM)))
    (gGe : PySem.W.specialIn K (.builtin "object.__class__") "__get__" = some (some (.builtin "getset_descriptor.__get__")))
    (gTk : PySem.W.takesIn K (.builtin "object.__class__") = some true)
    (zaLa : PySem.W.nsIn K mainGlobals "Lay" = some (some (.ref aLa)))
    (pgaLa : PySem.W.plainGet K aLa Str.empty = true)
    (hdaLa : PySem.W.hasDictIn K aLa = true)
    (poaLa : PySem.W.plainOver K aLa = true)
    (saaLa : PySem.W.findIn K (.ref aLa) "__setattr__" = some (some (.builtin "object.__setattr__")))
    (mkaLa : PySem.W.makesIn K aLa = true)
    (kcaLa : PySem.W.keepIn K (.ref aLa) = true)
    (gClaLa : PySem.W.findIn K (.ref aLa) "__class__" = some (some (.builtin "object.__class__")))
    (gObaLa : PySem.W.mroIn K aLa (.type "object") = some true)
    (icLa : PySem.W.isClsIn K aLa = true)
    (tyLa : PySem.W.typeIn K (.ref aLa) = some (.type "type"))
    (nbLa_n : PySem.W.subIn K (.ref aLa) (.type "NoneType") = some false)
    (nbLa_b : PySem.W.subIn K (.ref aLa) (.type "bool") = some false)
    (nbLa_i : PySem.W.subIn K (.ref aLa) (.type "int") = some false)
    (nbLa_s : PySem.W.subIn K (.ref aLa) (.type "str") = some false)
    (nbLa_l : PySem.W.subIn K (.ref aLa) (.type "list") = some false)
    (nbLa_t : PySem.W.subIn K (.ref aLa) (.type "tuple") = some false)
    (nbLa_d : PySem.W.subIn K (.ref aLa) (.type "dict") = some false)
    (aILa : PySem.W.findIn K (.ref aLa) "__init__" = some (some (.ref fILa)))
    (iILa : PySem.W.isFn K (.ref fILa) = true)
    (lILa : K.lookup fILa = some ⟨ocILa, odILa, .func (PySem.W.fnOf "__init__" "Lay.__init__" (defArgs sLayI) (defBody sLayI) (defScope sLayI) .none (.ref aKLa) dcILa pmILa anILa cdILa ctILa), slILa⟩)
    (cILa : PySem.W.codeIn K cdILa "Lay.__init__" = true)
    (kILa : PySem.W.keepIn K (.ref fILa) = true)
    (spLa : PySem.W.nsIn K aKLa "span" = some (some .none))
    (aQLa : PySem.W.findIn K (.ref aLa) "__eq__" = some (some (.ref fQLa)))
    (iQLa : PySem.W.isFn K (.ref fQLa) = true)
    (lQLa : K.lookup fQLa = some ⟨ocQLa, odQLa, .func (PySem.W.fnOf "__eq__" "Lay.__eq__" (defArgs sLayE) (defBody sLayE) (defScope sLayE) .none kVQLa dcQLa pmQLa anQLa cdQLa ctQLa), slQLa⟩)
    (cQLa : PySem.W.codeIn K cdQLa "Lay.__eq__" = true)
    (kQLa : PySem.W.keepIn K (.ref fQLa) = true)
    (gNeLa : PySem.W.findIn K (.ref aLa) "__ne__" = some (some (.builtin "object.__ne__")))
    (naLaitem : PySem.W.findIn K (.ref aLa) "item" = some none)
    (naLalevel : PySem.W.findIn K (.ref aLa) "level" = some none)
    (naLaspan : PySem.W.findIn K (.ref aLa) "span" = some none)
    (naLaat : PySem.W.findIn K (.ref aLa) "at" = some none)
    (naLathrow : PySem.W.findIn K (.ref aLa) "throw" = some none)
    (naLaslope : PySem.W.findIn K (.ref aLa) "slope" = some none)
    (naLa_lifts : PySem.W.findIn K (.ref aLa) "_lifts" = some none)
    (zaCu : PySem.W.nsIn K mainGlobals "Cut" = some (some (.ref aCu)))
    (pgaCu : PySem.W.plainGet K aCu Str.empty = true)
    (hdaCu : PySem.W.hasDictIn K aCu = true)
    (poaCu : PySem.W.plainOver K aCu = true)
    (saaCu : PySem.W.findIn K (.ref aCu) "__setattr__" = some (some (.builtin "object.__setattr__")))
    (mkaCu : PySem.W.makesIn K aCu = true)
    (kcaCu : PySem.W.keepIn K (.ref aCu) = true)
    (gClaCu : PySem.W.findIn K (.ref aCu) "__class__" = some (some (.builtin "object.__class__")))
    (gObaCu : PySem.W.mroIn K aCu (.type "object") = some true)
    (icCu : PySem.W.isClsIn K aCu = true)
    (tyCu : PySem.W.typeIn K (.ref aCu) = some (.type "type"))
    (nbCu_n : PySem.W.subIn K (.ref aCu) (.type "NoneType") = some false)
    (nbCu_b : PySem.W.subIn K (.ref aCu) (.type "bool") = some false)
    (nbCu_i : PySem.W.subIn K (.ref aCu) (.type "int") = some false)
    (nbCu_s : PySem.W.subIn K (.ref aCu) (.type "str") = some false)
    (nbCu_l : PySem.W.subIn K (.ref aCu) (.type "list") = some false)
    (nbCu_t : PySem.W.subIn K (.ref aCu) (.type "tuple") = some false)
    (nbCu_d : PySem.W.subIn K (.ref aCu) (.type "dict") = some false)
    (aICu : PySem.W.findIn K (.ref aCu) "__init__" = some (some (.ref fICu)))
    (iICu : PySem.W.isFn K (.ref fICu) = true)
    (lICu : K.lookup fICu = some ⟨ocICu, odICu, .func (PySem.W.fnOf "__init__" "Cut.__init__" (defArgs sCutI) (defBody sCutI) (defScope sCutI) .none (.ref aKCu) dcICu pmICu anICu cdICu ctICu), slICu⟩)
    (cICu : PySem.W.codeIn K cdICu "Cut.__init__" = true)
    (kICu : PySem.W.keepIn K (.ref fICu) = true)
    (spCu : PySem.W.nsIn K aKCu "span" = some (some .none))
    (aQCu : PySem.W.findIn K (.ref aCu) "__eq__" = some (some (.ref fQCu)))
    (iQCu : PySem.W.isFn K (.ref fQCu) = true)
    (lQCu : K.lookup fQCu = some ⟨ocQCu, odQCu, .func (PySem.W.fnOf "__eq__" "Cut.__eq__" (defArgs sCutE) (defBody sCutE) (defScope sCutE) .none kVQCu dcQCu pmQCu anQCu cdQCu ctQCu), slQCu⟩)
    (cQCu : PySem.W.codeIn K cdQCu "Cut.__eq__" = true)
    (kQCu : PySem.W.keepIn K (.ref fQCu) = true)
    (gNeCu : PySem.W.findIn K (.ref aCu) "__ne__" = some (some (.builtin "object.__ne__")))
    (naCuitem : PySem.W.findIn K (.ref aCu) "item" = some none)
    (naCulevel : PySem.W.findIn K (.ref aCu) "level" = some none)
    (naCuspan : PySem.W.findIn K (.ref aCu) "span" = some none)
    (naCuat : PySem.W.findIn K (.ref aCu) "at" = some none)
    (naCuthrow : PySem.W.findIn K (.ref aCu) "throw" = some none)
    (naCuslope : PySem.W.findIn K (.ref aCu) "slope" = some none)
    (naCu_lifts : PySem.W.findIn K (.ref aCu) "_lifts" = some none)
    (zaDi : PySem.W.nsIn K mainGlobals "Dike" = some (some (.ref aDi)))
    (pgaDi : PySem.W.plainGet K aDi Str.empty = true)
    (hdaDi : PySem.W.hasDictIn K aDi = true)
    (poaDi : PySem.W.plainOver K aDi = true)
    (saaDi : PySem.W.findIn K (.ref aDi) "__setattr__" = some (some (.builtin "object.__setattr__")))
    (mkaDi : PySem.W.makesIn K aDi = true)
    (kcaDi : PySem.W.keepIn K (.ref aDi) = true)
    (gClaDi : PySem.W.findIn K (.ref aDi) "__class__" = some (some (.builtin "object.__class__")))
    (gObaDi : PySem.W.mroIn K aDi (.type "object") = some true)
    (icDi : PySem.W.isClsIn K aDi = true)
    (tyDi : PySem.W.typeIn K (.ref aDi) = some (.type "type"))
    (nbDi_n : PySem.W.subIn K (.ref aDi) (.type "NoneType") = some false)
    (nbDi_b : PySem.W.subIn K (.ref aDi) (.type "bool") = some false)
    (nbDi_i : PySem.W.subIn K (.ref aDi) (.type "int") = some false)
    (nbDi_s : PySem.W.subIn K (.ref aDi) (.type "str") = some false)
    (nbDi_l : PySem.W.subIn K (.ref aDi) (.type "list") = some false)
    (nbDi_t : PySem.W.subIn K (.ref aDi) (.type "tuple") = some false)
    (nbDi_d : PySem.W.subIn K (.ref aDi) (.type "dict") = some false)
    (aIDi : PySem.W.findIn K (.ref aDi) "__init__" = some (some (.ref fIDi)))
    (iIDi : PySem.W.isFn K (.ref fIDi) = true)
    (lIDi : K.lookup fIDi = some ⟨ocIDi, odIDi, .func (PySem.W.fnOf "__init__" "Dike.__init__" (defArgs sDikeI) (defBody sDikeI) (defScope sDikeI) .none kVIDi dcIDi pmIDi anIDi cdIDi ctIDi), slIDi⟩)
    (cIDi : PySem.W.codeIn K cdIDi "Dike.__init__" = true)
    (kIDi : PySem.W.keepIn K (.ref fIDi) = true)
    (aQDi : PySem.W.findIn K (.ref aDi) "__eq__" = some (some (.ref fQDi)))
    (iQDi : PySem.W.isFn K (.ref fQDi) = true)
    (lQDi : K.lookup fQDi = some ⟨ocQDi, odQDi, .func (PySem.W.fnOf "__eq__" "Dike.__eq__" (defArgs sDikeE) (defBody sDikeE) (defScope sDikeE) .none kVQDi dcQDi pmQDi anQDi cdQDi ctQDi), slQDi⟩)
    (cQDi : PySem.W.codeIn K cdQDi "Dike.__eq__" = true)
    (kQDi : PySem.W.keepIn K (.ref fQDi) = true)
    (gNeDi : PySem.W.findIn K (.ref aDi) "__ne__" = some (some (.builtin "object.__ne__")))
    (naDiitem : PySem.W.findIn K (.ref aDi) "item" = some none)
    (naDilevel : PySem.W.findIn K (.ref aDi) "level" = some none)
    (naDispan : PySem.W.findIn K (.ref aDi) "span" = some none)
    (naDiat : PySem.W.findIn K (.ref aDi) "at" = some none)
    (naDithrow : PySem.W.findIn K (.ref aDi) "throw" = some none)
    (naDislope : PySem.W.findIn K (.ref aDi) "slope" = some none)
    (naDi_lifts : PySem.W.findIn K (.ref aDi) "_lifts" = some none)
    (zaLi : PySem.W.nsIn K mainGlobals "Lift" = some (some (.ref aLi)))
    (pgaLi : PySem.W.plainGet K aLi Str.empty = true)
    (hdaLi : PySem.W.hasDictIn K aLi = true)
    (poaLi : PySem.W.plainOver K aLi = true)
    (saaLi : PySem.W.findIn K (.ref aLi) "__setattr__" = some (some (.builtin "object.__setattr__")))
    (mkaLi : PySem.W.makesIn K aLi = true)
    (kcaLi : PySem.W.keepIn K (.ref aLi) = true)
    (gClaLi : PySem.W.findIn K (.ref aLi) "__class__" = some (some (.builtin "object.__class__")))
    (gObaLi : PySem.W.mroIn K aLi (.type "object") = some true)
    (icLi : PySem.W.isClsIn K aLi = true)
    (tyLi : PySem.W.typeIn K (.ref aLi) = some (.type "type"))
    (nbLi_n : PySem.W.subIn K (.ref aLi) (.type "NoneType") = some false)
    (nbLi_b : PySem.W.subIn K (.ref aLi) (.type "bool") = some false)
    (nbLi_i : PySem.W.subIn K (.ref aLi) (.type "int") = some false)
    (nbLi_s : PySem.W.subIn K (.ref aLi) (.type "str") = some false)
    (nbLi_l : PySem.W.subIn K (.ref aLi) (.type "list") = some false)
    (nbLi_t : PySem.W.subIn K (.ref aLi) (.type "tuple") = some false)
    (nbLi_d : PySem.W.subIn K (.ref aLi) (.type "dict") = some false)
    (aILi : PySem.W.findIn K (.ref aLi) "__init__" = some (some (.ref fILi)))
    (iILi : PySem.W.isFn K (.ref fILi) = true)
    (lILi : K.lookup fILi = some ⟨ocILi, odILi, .func (PySem.W.fnOf "__init__" "Lift.__init__" (defArgs sLiftI) (defBody sLiftI) (defScope sLiftI) .none kVILi dcILi pmILi anILi cdILi ctILi), slILi⟩)
    (cILi : PySem.W.codeIn K cdILi "Lift.__init__" = true)
    (kILi : PySem.W.keepIn K (.ref fILi) = true)
    (aQLi : PySem.W.findIn K (.ref aLi) "__eq__" = some (some (.ref fQLi)))
    (iQLi : PySem.W.isFn K (.ref fQLi) = true)
    (lQLi : K.lookup fQLi = some ⟨ocQLi, odQLi, .func (PySem.W.fnOf "__eq__" "Lift.__eq__" (defArgs sLiftE) (defBody sLiftE) (defScope sLiftE) .none kVQLi dcQLi pmQLi anQLi cdQLi ctQLi), slQLi⟩)
    (cQLi : PySem.W.codeIn K cdQLi "Lift.__eq__" = true)
    (kQLi : PySem.W.keepIn K (.ref fQLi) = true)
    (gNeLi : PySem.W.findIn K (.ref aLi) "__ne__" = some (some (.builtin "object.__ne__")))
    (naLiitem : PySem.W.findIn K (.ref aLi) "item" = some none)
    (naLilevel : PySem.W.findIn K (.ref aLi) "level" = some none)
    (naLispan : PySem.W.findIn K (.ref aLi) "span" = some none)
    (naLiat : PySem.W.findIn K (.ref aLi) "at" = some none)
    (naLithrow : PySem.W.findIn K (.ref aLi) "throw" = some none)
    (naLislope : PySem.W.findIn K (.ref aLi) "slope" = some none)
    (naLi_lifts : PySem.W.findIn K (.ref aLi) "_lifts" = some none)
    (zaFa : PySem.W.nsIn K mainGlobals "Fault" = some (some (.ref aFa)))
    (pgaFa : PySem.W.plainGet K aFa Str.empty = true)
    (hdaFa : PySem.W.hasDictIn K aFa = true)
    (poaFa : PySem.W.plainOver K aFa = true)
    (saaFa : PySem.W.findIn K (.ref aFa) "__setattr__" = some (some (.builtin "object.__setattr__")))
    (mkaFa : PySem.W.makesIn K aFa = true)
    (kcaFa : PySem.W.keepIn K (.ref aFa) = true)
    (gClaFa : PySem.W.findIn K (.ref aFa) "__class__" = some (some (.builtin "object.__class__")))
    (gObaFa : PySem.W.mroIn K aFa (.type "object") = some true)
    (icFa : PySem.W.isClsIn K aFa = true)
    (tyFa : PySem.W.typeIn K (.ref aFa) = some (.type "type"))
    (nbFa_n : PySem.W.subIn K (.ref aFa) (.type "NoneType") = some false)
    (nbFa_b : PySem.W.subIn K (.ref aFa) (.type "bool") = some false)
    (nbFa_i : PySem.W.subIn K (.ref aFa) (.type "int") = some false)
    (nbFa_s : PySem.W.subIn K (.ref aFa) (.type "str") = some false)
    (nbFa_l : PySem.W.subIn K (.ref aFa) (.type "list") = some false)
    (nbFa_t : PySem.W.subIn K (.ref aFa) (.type "tuple") = some false)
    (nbFa_d : PySem.W.subIn K (.ref aFa) (.type "dict") = some false)
    (aIFa : PySem.W.findIn K (.ref aFa) "__init__" = some (some (.ref fIFa)))
    (iIFa : PySem.W.isFn K (.ref fIFa) = true)
    (lIFa : K.lookup fIFa = some ⟨ocIFa, odIFa, .func (PySem.W.fnOf "__init__" "Fault.__init__" (defArgs sFaultI) (defBody sFaultI) (defScope sFaultI) .none kVIFa dcIFa pmIFa anIFa cdIFa ctIFa), slIFa⟩)
    (cIFa : PySem.W.codeIn K cdIFa "Fault.__init__" = true)
    (kIFa : PySem.W.keepIn K (.ref fIFa) = true)
    (aQFa : PySem.W.findIn K (.ref aFa) "__eq__" = some (some (.ref fQFa)))
    (iQFa : PySem.W.isFn K (.ref fQFa) = true)
    (lQFa : K.lookup fQFa = some ⟨ocQFa, odQFa, .func (PySem.W.fnOf "__eq__" "Fault.__eq__" (defArgs sFaultE) (defBody sFaultE) (defScope sFaultE) .none kVQFa dcQFa pmQFa anQFa cdQFa ctQFa), slQFa⟩)
    (cQFa : PySem.W.codeIn K cdQFa "Fault.__eq__" = true)
    (kQFa : PySem.W.keepIn K (.ref fQFa) = true)
    (gNeFa : PySem.W.findIn K (.ref aFa) "__ne__" = some (some (.builtin "object.__ne__")))
    (naFaitem : PySem.W.findIn K (.ref aFa) "item" = some none)
    (naFalevel : PySem.W.findIn K (.ref aFa) "level" = some none)
    (naFaspan : PySem.W.findIn K (.ref aFa) "span" = some none)
    (naFaat : PySem.W.findIn K (.ref aFa) "at" = some none)
    (naFathrow : PySem.W.findIn K (.ref aFa) "throw" = some none)
    (naFaslope : PySem.W.findIn K (.ref aFa) "slope" = some none)
    (naFa_lifts : PySem.W.findIn K (.ref aFa) "_lifts" = some none)
    (zaTi : PySem.W.nsIn K mainGlobals "Tilt" = some (some (.ref aTi)))
    (pgaTi : PySem.W.plainGet K aTi Str.empty = true)
    (hdaTi : PySem.W.hasDictIn K aTi = true)
    (poaTi : PySem.W.plainOver K aTi = true)
    (saaTi : PySem.W.findIn K (.ref aTi) "__setattr__" = some (some (.builtin "object.__setattr__")))
    (mkaTi : PySem.W.makesIn K aTi = true)
    (kcaTi : PySem.W.keepIn K (.ref aTi) = true)
    (gClaTi : PySem.W.findIn K (.ref aTi) "__class__" = some (some (.builtin "object.__class__")))
    (gObaTi : PySem.W.mroIn K aTi (.type "object") = some true)
    (icTi : PySem.W.isClsIn K aTi = true)
    (tyTi : PySem.W.typeIn K (.ref aTi) = some (.type "type"))
    (nbTi_n : PySem.W.subIn K (.ref aTi) (.type "NoneType") = some false)
    (nbTi_b : PySem.W.subIn K (.ref aTi) (.type "bool") = some false)
    (nbTi_i : PySem.W.subIn K (.ref aTi) (.type "int") = some false)
    (nbTi_s : PySem.W.subIn K (.ref aTi) (.type "str") = some false)
    (nbTi_l : PySem.W.subIn K (.ref aTi) (.type "list") = some false)
    (nbTi_t : PySem.W.subIn K (.ref aTi) (.type "tuple") = some false)
    (nbTi_d : PySem.W.subIn K (.ref aTi) (.type "dict") = some false)
    (aITi : PySem.W.findIn K (.ref aTi) "__init__" = some (some (.ref fITi)))
    (iITi : PySem.W.isFn K (.ref fITi) = true)
    (lITi : K.lookup fITi = some ⟨ocITi, odITi, .func (PySem.W.fnOf "__init__" "Tilt.__init__" (defArgs sTiltI) (defBody sTiltI) (defScope sTiltI) .none kVITi dcITi pmITi anITi cdITi ctITi), slITi⟩)
    (cITi : PySem.W.codeIn K cdITi "Tilt.__init__" = true)
    (kITi : PySem.W.keepIn K (.ref fITi) = true)
    (aQTi : PySem.W.findIn K (.ref aTi) "__eq__" = some (some (.ref fQTi)))
    (iQTi : PySem.W.isFn K (.ref fQTi) = true)
    (lQTi : K.lookup fQTi = some ⟨ocQTi, odQTi, .func (PySem.W.fnOf "__eq__" "Tilt.__eq__" (defArgs sTiltE) (defBody sTiltE) (defScope sTiltE) .none kVQTi dcQTi pmQTi anQTi cdQTi ctQTi), slQTi⟩)
    (cQTi : PySem.W.codeIn K cdQTi "Tilt.__eq__" = true)
    (kQTi : PySem.W.keepIn K (.ref fQTi) = true)
    (gNeTi : PySem.W.findIn K (.ref aTi) "__ne__" = some (some (.builtin "object.__ne__")))
    (naTiitem : PySem.W.findIn K (.ref aTi) "item" = some none)
    (naTilevel : PySem.W.findIn K (.ref aTi) "level" = some none)
    (naTispan : PySem.W.findIn K (.ref aTi) "span" = some none)
    (naTiat : PySem.W.findIn K (.ref aTi) "at" = some none)
    (naTithrow : PySem.W.findIn K (.ref aTi) "throw" = some none)
    (naTislope : PySem.W.findIn K (.ref aTi) "slope" = some none)
    (naTi_lifts : PySem.W.findIn K (.ref aTi) "_lifts" = some none)
    (zaaN : PySem.W.nsIn K mainGlobals "InvalidName" = some (some (.ref aN)))
    (xLaN : K.lookup aN = some (excClassObj nmaN qaN aN NaN bsaN mroValueError true snaN subaN abaN colaN ddaN m0aN m1aN m2aN m3aN m5aN "ValueError.__new__"))
    (saaN : PySem.W.findIn K (.ref aN) "__setattr__" = some (some (.builtin "object.__setattr__")))
    (exaN : PySem.W.subIn K (.ref aN) (.type "BaseException") = some true)
    (tyaN : PySem.W.typeIn K (.ref aN) = some (.type "type"))
    (kcaN : PySem.W.keepIn K (.ref aN) = true)
    (noaN : PySem.W.findIn K (.ref aN) "value" = some none)
    (aIaN : PySem.W.findIn K (.ref aN) "__init__" = some (some (.ref fIaN)))
    (lIaN : K.lookup fIaN = some ⟨ocIaN, odIaN, .func (PySem.W.fnOf "__init__" "InvalidName.__init__" (defArgs sInvalidNameInit) (defBody sInvalidNameInit) (defScope sInvalidNameInit) .none kVIaN dcIaN pmIaN anIaN cdIaN ctIaN), slIaN⟩)
    (cIaN : PySem.W.codeIn K cdIaN "InvalidName.__init__" = true)
    (kIaN : PySem.W.keepIn K (.ref fIaN) = true)
    (tIaN : PySem.W.typeIn K (.ref fIaN) = some (.type "function"))
    (gaXaN : PySem.W.findIn K (.ref aN) "__getattribute__" = some (some (.builtin "BaseException.__getattribute__")))
    (ggXaN : PySem.W.findIn K (.ref aN) "__getattr__" = some none)
    (hdXaN : PySem.W.hasDictIn K aN = true)
    (clXaN : PySem.W.isClsIn K aN = true)
    (suXaN : PySem.W.subIn K (.ref aN) (.ref aN) = some true)
    (zaaL : PySem.W.nsIn K mainGlobals "InvalidLevel" = some (some (.ref aL)))
    (xLaL : K.lookup aL = some (excClassObj nmaL qaL aL NaL bsaL mroValueError true snaL subaL abaL colaL ddaL m0aL m1aL m2aL m3aL m5aL "ValueError.__new__"))
    (saaL : PySem.W.findIn K (.ref aL) "__setattr__" = some (some (.builtin "object.__setattr__")))
    (exaL : PySem.W.subIn K (.ref aL) (.type "BaseException") = some true)
    (tyaL : PySem.W.typeIn K (.ref aL) = some (.type "type"))
    (kcaL : PySem.W.keepIn K (.ref aL) = true)
    (noaL : PySem.W.findIn K (.ref aL) "value" = some none)
    (aIaL : PySem.W.findIn K (.ref aL) "__init__" = some (some (.ref fIaL)))
    (lIaL : K.lookup fIaL = some ⟨ocIaL, odIaL, .func (PySem.W.fnOf "__init__" "InvalidLevel.__init__" (defArgs sInvalidLevelInit) (defBody sInvalidLevelInit) (defScope sInvalidLevelInit) .none kVIaL dcIaL pmIaL anIaL cdIaL ctIaL), slIaL⟩)
    (cIaL : PySem.W.codeIn K cdIaL "InvalidLevel.__init__" = true)
    (kIaL : PySem.W.keepIn K (.ref fIaL) = true)
    (tIaL : PySem.W.typeIn K (.ref fIaL) = some (.type "function"))
    (gaXaL : PySem.W.findIn K (.ref aL) "__getattribute__" = some (some (.builtin "BaseException.__getattribute__")))
    (ggXaL : PySem.W.findIn K (.ref aL) "__getattr__" = some none)
    (hdXaL : PySem.W.hasDictIn K aL = true)
    (clXaL : PySem.W.isClsIn K aL = true)
    (suXaL : PySem.W.subIn K (.ref aL) (.ref aL) = some true)
    (zaaP : PySem.W.nsIn K mainGlobals "NoColumn" = some (some (.ref aP)))
    (xLaP : K.lookup aP = some (excClassObj nmaP qaP aP NaP bsaP mroIndexError true snaP subaP abaP colaP ddaP m0aP m1aP m2aP m3aP m5aP "IndexError.__new__"))
    (saaP : PySem.W.findIn K (.ref aP) "__setattr__" = some (some (.builtin "object.__setattr__")))
    (exaP : PySem.W.subIn K (.ref aP) (.type "BaseException") = some true)
    (tyaP : PySem.W.typeIn K (.ref aP) = some (.type "type"))
    (kcaP : PySem.W.keepIn K (.ref aP) = true)
    (noaP : PySem.W.findIn K (.ref aP) "at" = some none)
    (aIaP : PySem.W.findIn K (.ref aP) "__init__" = some (some (.ref fIaP)))
    (lIaP : K.lookup fIaP = some ⟨ocIaP, odIaP, .func (PySem.W.fnOf "__init__" "NoColumn.__init__" (defArgs sNoColumnInit) (defBody sNoColumnInit) (defScope sNoColumnInit) .none kVIaP dcIaP pmIaP anIaP cdIaP ctIaP), slIaP⟩)
    (cIaP : PySem.W.codeIn K cdIaP "NoColumn.__init__" = true)
    (kIaP : PySem.W.keepIn K (.ref fIaP) = true)
    (tIaP : PySem.W.typeIn K (.ref fIaP) = some (.type "function"))
    (gaXaP : PySem.W.findIn K (.ref aP) "__getattribute__" = some (some (.builtin "BaseException.__getattribute__")))
    (ggXaP : PySem.W.findIn K (.ref aP) "__getattr__" = some none)
    (hdXaP : PySem.W.hasDictIn K aP = true)
    (clXaP : PySem.W.isClsIn K aP = true)
    (suXaP : PySem.W.subIn K (.ref aP) (.ref aP) = some true)
    (zaaW : PySem.W.nsIn K mainGlobals "WrongWidth" = some (some (.ref aW)))
    (xLaW : K.lookup aW = some (excClassObj nmaW qaW aW NaW bsaW mroValueError true snaW subaW abaW colaW ddaW m0aW m1aW m2aW m3aW m5aW "ValueError.__new__"))
    (saaW : PySem.W.findIn K (.ref aW) "__setattr__" = some (some (.builtin "object.__setattr__")))
    (exaW : PySem.W.subIn K (.ref aW) (.type "BaseException") = some true)
    (tyaW : PySem.W.typeIn K (.ref aW) = some (.type "type"))
    (kcaW : PySem.W.keepIn K (.ref aW) = true)
    (noaW : PySem.W.findIn K (.ref aW) "width" = some none)
    (aIaW : PySem.W.findIn K (.ref aW) "__init__" = some (some (.ref fIaW)))
    (lIaW : K.lookup fIaW = some ⟨ocIaW, odIaW, .func (PySem.W.fnOf "__init__" "WrongWidth.__init__" (defArgs sWrongWidthInit) (defBody sWrongWidthInit) (defScope sWrongWidthInit) .none kVIaW dcIaW pmIaW anIaW cdIaW ctIaW), slIaW⟩)
    (cIaW : PySem.W.codeIn K cdIaW "WrongWidth.__init__" = true)
    (kIaW : PySem.W.keepIn K (.ref fIaW) = true)
    (tIaW : PySem.W.typeIn K (.ref fIaW) = some (.type "function"))
    (gaXaW : PySem.W.findIn K (.ref aW) "__getattribute__" = some (some (.builtin "BaseException.__getattribute__")))
    (ggXaW : PySem.W.findIn K (.ref aW) "__getattr__" = some none)
    (hdXaW : PySem.W.hasDictIn K aW = true)
    (clXaW : PySem.W.isClsIn K aW = true)
    (suXaW : PySem.W.subIn K (.ref aW) (.ref aW) = some true)
    (qLN : PySem.W.subIn K (.ref aL) (.ref aN) = some false)
    (qPN : PySem.W.subIn K (.ref aP) (.ref aN) = some false)
    (qPL : PySem.W.subIn K (.ref aP) (.ref aL) = some false)
    (qWN : PySem.W.subIn K (.ref aW) (.ref aN) = some false)
    (qWL : PySem.W.subIn K (.ref aW) (.ref aL) = some false)
    (qWP : PySem.W.subIn K (.ref aW) (.ref aP) = some false)
    : ∃ (fd : FuncData) (c T : Addr) (sp : Sp), (∀ (s : Shared) (v : Value), BindsTo s fd ⟨[v], []⟩ [("_law_script", v)]) ∧ PySem.W.tabIn K "law" = some (c, T) ∧ (∀ (H : Hp) (a : Addr) (ns : List Int), ns.length ≤ 63 → H T = some (.tbl #[]) → SqL K H a (ns.map V.int) → sp [.ref a] H (fun v _ => v = .bl true) fun _ _ _ => False) ∧ ∀ base : Heap, K.In base → base.Ns mainGlobals mg → (∃ o, base.get? sysModules = some o) → LamX.TabB base mg c T → DL.FnG l.prog w K mg base CX0 20 fa fd ["_law_script"] sp := by
  have e := hfa.symm.trans (PySem.W.mg_of X G a20)
  cases e
  have T : Txt mg := ⟨PySem.W.mg_none_of X G z_int, PySem.W.mg_none_of X G z_len, PySem.W.mg_none_of X G z_abs, PySem.W.mg_none_of X G z_range, PySem.W.mg_none_of X G z_tuple, PySem.W.mg_none_of X G z_list, PySem.W.mg_none_of X G z_str, PySem.W.mg_none_of X G z_bool, PySem.W.mg_none_of X G z_isinstance, PySem.W.mg_none_of X G z_all, PySem.W.mg_none_of X G z_any, PySem.W.mg_none_of X G z_min, PySem.W.mg_none_of X G z_sum, PySem.W.mg_none_of X G z_zip, PySem.W.mg_none_of X G z_dict, PySem.W.mg_none_of X G z_repr, PySem.W.mg_none_of X G z_IndexError⟩
  have F0 := fun_mk (st := sIsName) l0 c0 k0
  have D0 : DefAt K mg "is_name" sIsName ["value"] _ _ := ⟨F0, PySem.W.mg_of X G a0, F0.binds (ps := ["value"]) fun _ _ _ _ _ _ us hl => match us, hl with | [_], _ => rfl⟩
  have F1 := fun_mk (st := sIsLevel) l1 c1 k1
  have D1 : DefAt K mg "is_level" sIsLevel ["value"] _ _ := ⟨F1, PySem.W.mg_of X G a1, F1.binds (ps := ["value"]) fun _ _ _ _ _ _ us hl => match us, hl with | [_], _ => rfl⟩
  have F2 := fun_mk (st := sIsIndex) l2 c2 k2
  have D2 : DefAt K mg "is_index" sIsIndex ["value", "count"] _ _ := ⟨F2, PySem.W.mg_of X G a2, F2.binds (ps := ["value", "count"]) fun _ _ _ _ _ _ us hl => match us, hl with | [_, _], _ => rfl⟩
  have F3 := fun_mk (st := sNeedName) l3 c3 k3
  have D3 : DefAt K mg "need_name" sNeedName ["value"] _ _ := ⟨F3, PySem.W.mg_of X G a3, F3.binds (ps := ["value"]) fun _ _ _ _ _ _ us hl => match us, hl with | [_], _ => rfl⟩
  have F4 := fun_mk (st := sNeedLevel) l4 c4 k4
  have D4 : DefAt K mg "need_level" sNeedLevel ["value"] _ _ := ⟨F4, PySem.W.mg_of X G a4, F4.binds (ps := ["value"]) fun _ _ _ _ _ _ us hl => match us, hl with | [_], _ => rfl⟩
  have F5 := fun_mk (st := sIsWidth) l5 c5 k5
  have D5 : DefAt K mg "is_width" sIsWidth ["value"] _ _ := ⟨F5, PySem.W.mg_of X G a5, F5.binds (ps := ["value"]) fun _ _ _ _ _ _ us hl => match us, hl with | [_], _ => rfl⟩
  have F6 := fun_mk (st := sNeedColumn) l6 c6 k6
  have D6 : DefAt K mg "need_column" sNeedColumn ["value"] _ _ := ⟨F6, PySem.W.mg_of X G a6, F6.binds (ps := ["value"]) fun _ _ _ _ _ _ us hl => match us, hl with | [_], _ => rfl⟩
  have F7 := fun_mk (st := sIsSpan) l7 c7 k7
  have D7 : DefAt K mg "is_span" sIsSpan ["value"] _ _ := ⟨F7, PySem.W.mg_of X G a7, F7.binds (ps := ["value"]) fun _ _ _ _ _ _ us hl => match us, hl with | [_], _ => rfl⟩
  have F8 := fun_mk (st := sNeedSpanOrNone) l8 c8 k8
  have D8 : DefAt K mg "need_span_or_none" sNeedSpanOrNone ["value"] _ _ := ⟨F8, PySem.W.mg_of X G a8, F8.binds (ps := ["value"]) fun _ _ _ _ _ _ us hl => match us, hl with | [_], _ => rfl⟩
  have F9 := fun_mk (st := sCopied) l9 c9 k9
  have D9 : DefAt K mg "copied" sCopied ["value"] _ _ := ⟨F9, PySem.W.mg_of X G a9, F9.binds (ps := ["value"]) fun _ _ _ _ _ _ us hl => match us, hl with | [_], _ => rfl⟩
  have F10 := fun_mk (st := sFeed) l10 c10 k10
  have D10 : DefAt K mg "_law_feed" sFeed ["_law_script"] _ _ := ⟨F10, PySem.W.mg_of X G a10, F10.binds (ps := ["_law_script"]) fun _ _ _ _ _ _ us hl => match us, hl with | [_], _ => rfl⟩
  have F11 := fun_mk (st := sDraw) l11 c11 k11
  have D11 : DefAt K mg "_law_draw" sDraw ["_law_feed_here", "_law_many"] _ _ := ⟨F11, PySem.W.mg_of X G a11, F11.binds (ps := ["_law_feed_here", "_law_many"]) fun _ _ _ _ _ _ us hl => match us, hl with | [_, _], _ => rfl⟩
  have F12 := fun_mk (st := sPick) l12 c12 k12
  have D12 : DefAt K mg "_law_pick" sPick ["_law_feed_here", "_law_options"] _ _ := ⟨F12, PySem.W.mg_of X G a12, F12.binds (ps := ["_law_feed_here", "_law_options"]) fun _ _ _ _ _ _ us hl => match us, hl with | [_, _], _ => rfl⟩
  have F13 := fun_mk (st := sAny) l13 c13 k13
  have D13 : DefAt K mg "_law_any" sAny ["_law_feed_here", "_law_deep"] _ _ := ⟨F13, PySem.W.mg_of X G a13, F13.binds (ps := ["_law_feed_here", "_law_deep"]) fun _ _ _ _ _ _ us hl => match us, hl with | [_, _], _ => rfl⟩
  have F14 := fun_mk (st := sIsInt) l14 c14 k14
  have D14 : DefAt K mg "_law_is_int" sIsInt ["_law_value"] _ _ := ⟨F14, PySem.W.mg_of X G a14, F14.binds (ps := ["_law_value"]) fun _ _ _ _ _ _ us hl => match us, hl with | [_], _ => rfl⟩
  have F15 := fun_mk (st := sIsWord) l15 c15 k15
  have D15 : DefAt K mg "_law_is_word" sIsWord ["_law_value"] _ _ := ⟨F15, PySem.W.mg_of X G a15, F15.binds (ps := ["_law_value"]) fun _ _ _ _ _ _ us hl => match us, hl with | [_], _ => rfl⟩
  have F16 := fun_mk (st := sCaught) l16 c16 k16
  have D16 : DefAt K mg "_law_caught" sCaught ["_law_call"] _ _ := ⟨F16, PySem.W.mg_of X G a16, F16.binds (ps := ["_law_call"]) fun _ _ _ _ _ _ us hl => match us, hl with | [_], _ => rfl⟩
  have F17 := fun_mk (st := sLooked) l17 c17 k17
  have D17 : DefAt K mg "_law_looked" sLooked ["_law_values"] _ _ := ⟨F17, PySem.W.mg_of X G a17, F17.binds (ps := ["_law_values"]) fun _ _ _ _ _ _ us hl => match us, hl with | [_], _ => rfl⟩
  have F18 := fun_mk (st := sDueLift) l18 c18 k18
  have D18 : DefAt K mg "_law_due_lift" sDueLift ["_law_value"] _ _ := ⟨F18, PySem.W.mg_of X G a18, F18.binds (ps := ["_law_value"]) fun _ _ _ _ _ _ us hl => match us, hl with | [_], _ => rfl⟩
  have F19 := fun_mk (st := sSomeLifts) l19 c19 k19
  have D19 : DefAt K mg "_law_some_lifts" sSomeLifts ["_law_feed_here"] _ _ := ⟨F19, PySem.W.mg_of X G a19, F19.binds (ps := ["_law_feed_here"]) fun _ _ _ _ _ _ us hl => match us, hl with | [_], _ => rfl⟩
  have F20 := fun_mk (st := sLaw) l20 c20 k20
  have ecd : cd20 = .ref cL := DL.tabIn_code (fd := PySem.W.fnOf "law" "law" (defArgs sLaw) (defBody sLaw) (defScope sLaw) .none kV20 dc20 pm20 an20 cd20 ct20) a20 l20 tbL
  subst ecd
  have L : LDefs K mg := { fF := _, fdF := _, DF := D10, fD := _, fdD := _, DD := D11, fP := _, fdP := _, DP := D12, fA := _, fdA := _, DA := D13, fII := _, fdII := _, DII := D14, fIW := _, fdIW := _, DIW := D15, fLO := _, fdLO := _, DLO := D17, fDU := _, fdDU := _, DDU := D18, fSO := _, fdSO := _, DSO := D19, fCP := _, fdCP := _, DCP := D9, fIX := _, fdIX := _, DIX := D2 }
  let SV : SecV K mg := { C := aZ, mgC := PySem.W.mg_of X G zaZ, mc := .type "type", u := .int 12 tM, rd := ⟨rdZ, gaZ⟩, most := ⟨mcZ, ⟨tM, rfl⟩⟩ }
  have OCLa : OwnC K aLa := { isC := icLa, ty := tyLa, cl := ⟨pgaLa, hdaLa, poaLa, saaLa⟩, ha := gClaLa, hn := gGe, ht := gTk, ho := gObaLa, nb := { n := nbLa_n, b := nbLa_b, i := nbLa_i, s := nbLa_s, l := nbLa_l, t := nbLa_t, d := nbLa_d } }
  have FILa : FunD K "__init__" "Lay.__init__" (defArgs sLayI) (defBody sLayI) (defScope sLayI) [] [("span", .non)] fILa _ := ⟨⟨_, _, _, _, _, _, _, _, _, _, rfl, lILa, cILa, .inl ⟨rfl, rfl⟩, .inr ⟨aKLa, rfl, fun q hq => ?_⟩⟩, kILa⟩
  rotate_left
  · cases List.mem_singleton.mp hq
    exact ⟨.none, spLa, rfl⟩
  obtain ⟨dsLa, vsLa, bILa⟩ := FILa.binds0 (ps := ["self", "rock", "level", "span"]) 3 (fun z => nomatch z) rfl (fun D doc pm an cdv ct us ks h1 h2 => match us, ks, h1, h2 with | [_, _, _], [_], _, _ => ⟨_, _, _, _, _, _, rfl, rfl, rfl⟩)
  have FQLa := fun_mk (x := "__eq__") (qual := "Lay.__eq__") (st := sLayE) lQLa cQLa kQLa
  have bQLa := FQLa.binds (ps := ["self", "other"]) fun _ _ _ _ _ _ us hl => match us, hl with | [_, _], _ => rfl
  have OCCu : OwnC K aCu := { isC := icCu, ty := tyCu, cl := ⟨pgaCu, hdaCu, poaCu, saaCu⟩, ha := gClaCu, hn := gGe, ht := gTk, ho := gObaCu, nb := { n := nbCu_n, b := nbCu_b, i := nbCu_i, s := nbCu_s, l := nbCu_l, t := nbCu_t, d := nbCu_d } }
  have FICu : FunD K "__init__" "Cut.__init__" (defArgs sCutI) (defBody sCutI) (defScope sCutI) [] [("span", .non)] fICu _ := ⟨⟨_, _, _, _, _, _, _, _, _, _, rfl, lICu, cICu, .inl ⟨rfl, rfl⟩, .inr ⟨aKCu, rfl, fun q hq => ?_⟩⟩, kICu⟩
  rotate_left
  · cases List.mem_singleton.mp hq
    exact ⟨.none, spCu, rfl⟩
  obtain ⟨dsCu, vsCu, bICu⟩ := FICu.binds0 (ps := ["self", "name", "level", "span"]) 3 (fun z => nomatch z) rfl (fun D doc pm an cdv ct us ks h1 h2 => match us, ks, h1, h2 with | [_, _, _], [_], _, _ => ⟨_, _, _, _, _, _, rfl, rfl, rfl⟩)
  have FQCu := fun_mk (x := "__eq__") (qual := "Cut.__eq__") (st := sCutE) lQCu cQCu kQCu
  have bQCu := FQCu.binds (ps := ["self", "other"]) fun _ _ _ _ _ _ us hl => match us, hl with | [_, _], _ => rfl
  have OCDi : OwnC K aDi := { isC := icDi, ty := tyDi, cl := ⟨pgaDi, hdaDi, poaDi, saaDi⟩, ha := gClaDi, hn := gGe, ht := gTk, ho := gObaDi, nb := { n := nbDi_n, b := nbDi_b, i := nbDi_i, s := nbDi_s, l := nbDi_l, t := nbDi_t, d := nbDi_d } }
  have FIDi : FunD K "__init__" "Dike.__init__" (defArgs sDikeI) (defBody sDikeI) (defScope sDikeI) [] [] fIDi _ := ⟨⟨_, _, _, _, _, _, _, _, _, _, rfl, lIDi, cIDi, .inl ⟨rfl, rfl⟩, .inl rfl⟩, kIDi⟩
  have bIDi := FIDi.bindsN (ps := ["self", "rock", "at", "level"]) (fun _ _ _ _ _ _ us hl => match us, hl with | [_, _, _, _], _ => rfl)
  have FQDi := fun_mk (x := "__eq__") (qual := "Dike.__eq__") (st := sDikeE) lQDi cQDi kQDi
  have bQDi := FQDi.binds (ps := ["self", "other"]) fun _ _ _ _ _ _ us hl => match us, hl with | [_, _], _ => rfl
  have OCLi : OwnC K aLi := { isC := icLi, ty := tyLi, cl := ⟨pgaLi, hdaLi, poaLi, saaLi⟩, ha := gClaLi, hn := gGe, ht := gTk, ho := gObaLi, nb := { n := nbLi_n, b := nbLi_b, i := nbLi_i, s := nbLi_s, l := nbLi_l, t := nbLi_t, d := nbLi_d } }
  have FILi : FunD K "__init__" "Lift.__init__" (defArgs sLiftI) (defBody sLiftI) (defScope sLiftI) [] [] fILi _ := ⟨⟨_, _, _, _, _, _, _, _, _, _, rfl, lILi, cILi, .inl ⟨rfl, rfl⟩, .inl rfl⟩, kILi⟩
  have bILi := FILi.bindsN (ps := ["self", "lifts"]) (fun _ _ _ _ _ _ us hl => match us, hl with | [_, _], _ => rfl)
  have FQLi := fun_mk (x := "__eq__") (qual := "Lift.__eq__") (st := sLiftE) lQLi cQLi kQLi
  have bQLi := FQLi.binds (ps := ["self", "other"]) fun _ _ _ _ _ _ us hl => match us, hl with | [_, _], _ => rfl
  have OCFa : OwnC K aFa := { isC := icFa, ty := tyFa, cl := ⟨pgaFa, hdaFa, poaFa, saaFa⟩, ha := gClaFa, hn := gGe, ht := gTk, ho := gObaFa, nb := { n := nbFa_n, b := nbFa_b, i := nbFa_i, s := nbFa_s, l := nbFa_l, t := nbFa_t, d := nbFa_d } }
  have FIFa : FunD K "__init__" "Fault.__init__" (defArgs sFaultI) (defBody sFaultI) (defScope sFaultI) [] [] fIFa _ := ⟨⟨_, _, _, _, _, _, _, _, _, _, rfl, lIFa, cIFa, .inl ⟨rfl, rfl⟩, .inl rfl⟩, kIFa⟩
  have bIFa := FIFa.bindsN (ps := ["self", "at", "throw"]) (fun _ _ _ _ _ _ us hl => match us, hl with | [_, _, _], _ => rfl)
  have FQFa := fun_mk (x := "__eq__") (qual := "Fault.__eq__") (st := sFaultE) lQFa cQFa kQFa
  have bQFa := FQFa.binds (ps := ["self", "other"]) fun _ _ _ _ _ _ us hl => match us, hl with | [_, _], _ => rfl
  have OCTi : OwnC K aTi := { isC := icTi, ty := tyTi, cl := ⟨pgaTi, hdaTi, poaTi, saaTi⟩, ha := gClaTi, hn := gGe, ht := gTk, ho := gObaTi, nb := { n := nbTi_n, b := nbTi_b, i := nbTi_i, s := nbTi_s, l := nbTi_l, t := nbTi_t, d := nbTi_d } }
  have FITi : FunD K "__init__" "Tilt.__init__" (defArgs sTiltI) (defBody sTiltI) (defScope sTiltI) [] [] fITi _ := ⟨⟨_, _, _, _, _, _, _, _, _, _, rfl, lITi, cITi, .inl ⟨rfl, rfl⟩, .inl rfl⟩, kITi⟩
  have bITi := FITi.bindsN (ps := ["self", "slope"]) (fun _ _ _ _ _ _ us hl => match us, hl with | [_, _], _ => rfl)
  have FQTi := fun_mk (x := "__eq__") (qual := "Tilt.__eq__") (st := sTiltE) lQTi cQTi kQTi
  have bQTi := FQTi.binds (ps := ["self", "other"]) fun _ _ _ _ _ _ us hl => match us, hl with | [_, _], _ => rfl
  let kE : EvK K mg := { lay := { C := aLa, oc := OCLa, mgC := PySem.W.mg_of X G zaLa, fI := fILa, fdI := _, mkC := ⟨mkaLa, aILa, iILa, kcaLa⟩, FI := FILa, ds := dsLa, hd := vsLa, bI := bILa, fQ := fQLa, eQ := _, FEq := FQLa, bEq := bQLa, hEq := aQLa, iEq := iQLa, hNe := gNeLa, nItem := naLaitem, nLevel := naLalevel, nSpan := naLaspan, nAt := naLaat, nThrow := naLathrow, nSlope := naLaslope, nLifts := naLa_lifts }, cut := { C := aCu, oc := OCCu, mgC := PySem.W.mg_of X G zaCu, fI := fICu, fdI := _, mkC := ⟨mkaCu, aICu, iICu, kcaCu⟩, FI := FICu, ds := dsCu, hd := vsCu, bI := bICu, fQ := fQCu, eQ := _, FEq := FQCu, bEq := bQCu, hEq := aQCu, iEq := iQCu, hNe := gNeCu, nItem := naCuitem, nLevel := naCulevel, nSpan := naCuspan, nAt := naCuat, nThrow := naCuthrow, nSlope := naCuslope, nLifts := naCu_lifts }, dike := { C := aDi, oc := OCDi, mgC := PySem.W.mg_of X G zaDi, fI := fIDi, fdI := _, mkC := ⟨mkaDi, aIDi, iIDi, kcaDi⟩, FI := FIDi, ds := [], hd := .nil, bI := bIDi, fQ := fQDi, eQ := _, FEq := FQDi, bEq := bQDi, hEq := aQDi, iEq := iQDi, hNe := gNeDi, nItem := naDiitem, nLevel := naDilevel, nSpan := naDispan, nAt := naDiat, nThrow := naDithrow, nSlope := naDislope, nLifts := naDi_lifts }, lift := { C := aLi, oc := OCLi, mgC := PySem.W.mg_of X G zaLi, fI := fILi, fdI := _, mkC := ⟨mkaLi, aILi, iILi, kcaLi⟩, FI := FILi, ds := [], hd := .nil, bI := bILi, fQ := fQLi, eQ := _, FEq := FQLi, bEq := bQLi, hEq := aQLi, iEq := iQLi, hNe := gNeLi, nItem := naLiitem, nLevel := naLilevel, nSpan := naLispan, nAt := naLiat, nThrow := naLithrow, nSlope := naLislope, nLifts := naLi_lifts }, fault := { C := aFa, oc := OCFa, mgC := PySem.W.mg_of X G zaFa, fI := fIFa, fdI := _, mkC := ⟨mkaFa, aIFa, iIFa, kcaFa⟩, FI := FIFa, ds := [], hd := .nil, bI := bIFa, fQ := fQFa, eQ := _, FEq := FQFa, bEq := bQFa, hEq := aQFa, iEq := iQFa, hNe := gNeFa, nItem := naFaitem, nLevel := naFalevel, nSpan := naFaspan, nAt := naFaat, nThrow := naFathrow, nSlope := naFaslope, nLifts := naFa_lifts }, tilt := { C := aTi, oc := OCTi, mgC := PySem.W.mg_of X G zaTi, fI := fITi, fdI := _, mkC := ⟨mkaTi, aITi, iITi, kcaTi⟩, FI := FITi, ds := [], hd := .nil, bI := bITi, fQ := fQTi, eQ := _, FEq := FQTi, bEq := bQTi, hEq := aQTi, iEq := iQTi, hNe := gNeTi, nItem := naTiitem, nLevel := naTilevel, nSpan := naTispan, nAt := naTiat, nThrow := naTithrow, nSlope := naTislope, nLifts := naTi_lifts } }
  have FIaN := fun_mk (x := "__init__") (qual := "InvalidName.__init__") (st := sInvalidNameInit) lIaN cIaN kIaN
  have bIaN := FIaN.binds (ps := ["self", "value"]) fun _ _ _ _ _ _ us hl => match us, hl with | [_, _], _ => rfl
  let MN : ErrF K mg "InvalidName" "value" "InvalidName.__init__" "ValueError" "ValueError.__new__" "ValueError.__init__" mroValueError sInvalidNameInit := { C := aN, ob := ⟨PySem.F.excBase_ValueError, ⟨nmaN, qaN, NaN, bsaN, snaN, subaN, abaN, colaN, ddaN, m0aN, m1aN, m2aN, m3aN, m5aN, xLaN⟩, PySem.F.store_ValueError.passes, by decide +kernel, saaN, exaN, tyaN, kcaN⟩, mgC := PySem.W.mg_of X G zaaN, no := noaN, fI := fIaN, fdI := _, FI := FIaN, bI := bIaN, iC := aIaN, tI := tIaN }
  have XN : ErrX K MN.C := ⟨⟨gaXaN, ggXaN, exaN, hdXaN⟩, exm_own exaN clXaN tyaN suXaN⟩
  have FIaL := fun_mk (x := "__init__") (qual := "InvalidLevel.__init__") (st := sInvalidLevelInit) lIaL cIaL kIaL
  have bIaL := FIaL.binds (ps := ["self", "value"]) fun _ _ _ _ _ _ us hl => match us, hl with | [_, _], _ => rfl
  let ML : ErrF K mg "InvalidLevel" "value" "InvalidLevel.__init__" "ValueError" "ValueError.__new__" "ValueError.__init__" mroValueError sInvalidLevelInit := { C := aL, ob := ⟨PySem.F.excBase_ValueError, ⟨nmaL, qaL, NaL, bsaL, snaL, subaL, abaL, colaL, ddaL, m0aL, m1aL, m2aL, m3aL, m5aL, xLaL⟩, PySem.F.store_ValueError.passes, by decide +kernel, saaL, exaL, tyaL, kcaL⟩, mgC := PySem.W.mg_of X G zaaL, no := noaL, fI := fIaL, fdI := _, FI := FIaL, bI := bIaL, iC := aIaL, tI := tIaL }
  have XL : ErrX K ML.C := ⟨⟨gaXaL, ggXaL, exaL, hdXaL⟩, exm_own exaL clXaL tyaL suXaL⟩
  have FIaP := fun_mk (x := "__init__") (qual := "NoColumn.__init__") (st := sNoColumnInit) lIaP cIaP kIaP
  have bIaP := FIaP.binds (ps := ["self", "at"]) fun _ _ _ _ _ _ us hl => match us, hl with | [_, _], _ => rfl
  let MC : ErrF K mg "NoColumn" "at" "NoColumn.__init__" "IndexError" "IndexError.__new__" "IndexError.__init__" mroIndexError sNoColumnInit := { C := aP, ob := ⟨PySem.F.excBase_IndexError, ⟨nmaP, qaP, NaP, bsaP, snaP, subaP, abaP, colaP, ddaP, m0aP, m1aP, m2aP, m3aP, m5aP, xLaP⟩, PySem.F.store_IndexError.passes, by decide +kernel, saaP, exaP, tyaP, kcaP⟩, mgC := PySem.W.mg_of X G zaaP, no := noaP, fI := fIaP, fdI := _, FI := FIaP, bI := bIaP, iC := aIaP, tI := tIaP }
  have XC : ErrX K MC.C := ⟨⟨gaXaP, ggXaP, exaP, hdXaP⟩, exm_own exaP clXaP tyaP suXaP⟩
  have FIaW := fun_mk (x := "__init__") (qual := "WrongWidth.__init__") (st := sWrongWidthInit) lIaW cIaW kIaW
  have bIaW := FIaW.binds (ps := ["self", "width"]) fun _ _ _ _ _ _ us hl => match us, hl with | [_, _], _ => rfl
  let MW : ErrF K mg "WrongWidth" "width" "WrongWidth.__init__" "ValueError" "ValueError.__new__" "ValueError.__init__" mroValueError sWrongWidthInit := { C := aW, ob := ⟨PySem.F.excBase_ValueError, ⟨nmaW, qaW, NaW, bsaW, snaW, subaW, abaW, colaW, ddaW, m0aW, m1aW, m2aW, m3aW, m5aW, xLaW⟩, PySem.F.store_ValueError.passes, by decide +kernel, saaW, exaW, tyaW, kcaW⟩, mgC := PySem.W.mg_of X G zaaW, no := noaW, fI := fIaW, fdI := _, FI := FIaW, bI := bIaW, iC := aIaW, tI := tIaW }
  have XW : ErrX K MW.C := ⟨⟨gaXaW, ggXaW, exaW, hdXaW⟩, exm_own exaW clXaW tyaW suXaW⟩
  have xLN : PySem.W.exmOne K (.ref ML.C) (.ref MN.C) = some false := exm_two exaN clXaN tyaN qLN
  have xPN : PySem.W.exmOne K (.ref MC.C) (.ref MN.C) = some false := exm_two exaN clXaN tyaN qPN
  have xPL : PySem.W.exmOne K (.ref MC.C) (.ref ML.C) = some false := exm_two exaL clXaL tyaL qPL
  have xWN : PySem.W.exmOne K (.ref MW.C) (.ref MN.C) = some false := exm_two exaN clXaN tyaN qWN
  have xWL : PySem.W.exmOne K (.ref MW.C) (.ref ML.C) = some false := exm_two exaL clXaL tyaL qWL
  have xWP : PySem.W.exmOne K (.ref MW.C) (.ref MC.C) = some false := exm_two exaP clXaP tyaP qWP
  have X4 : Err4 K MN.C ML.C MC.C MW.C := ⟨XN, XL, XC, XW, xLN, xPN, xPL, xWN, xWL, xWP⟩
  have mgN := PySem.W.mg_of X G zLONGEST_NAME
  exact ⟨PySem.W.fnOf "law" "law" (defArgs sLaw) (defBody sLaw) (defScope sLaw) .none kV20 dc20 pm20 an20 (.ref cL) ct20, cL, Pt, spLaw K Pt, fun s v => .of_eq rfl, tbL, fun H a ns hl hT hS => ⟨a, ns, rfl, hS, hl, hT, fun _ => rfl⟩, fun base _ _ hS TB => ok_law l20 c20 TB T SV MN ML MC MW X4 kE L D0 D1 D3 D4 D5 D6 D16 mgN (sm_d T SV mgN D0 D1 D2 D7 D3 D4 D8 D6 D5) hS⟩
end Rk

set_option Elab.async false
set_option linter.all false
set_option pp.maxSteps 400
namespace Rk
open PySem L2 DL
open PySem.Spec PyProof.Rows
set_option maxHeartbeats 8000000 in
theorem facts {l : PySem.W.OpenLaw} {w : World} {K : PySem.W.Frag} {h : Heap} {mg : Str → Option Value} {fa : Addr} (X : K.In h) (G : h.Ns mainGlobals mg) (hfa : mg "law" = some (.ref fa)) (c0 : SaysPT ex1 ex2 fnL K)
    : ∃ (fd : FuncData) (c T : Addr) (sp : Sp), (∀ (s : Shared) (v : Value), BindsTo s fd ⟨[v], []⟩ [("_law_script", v)]) ∧ PySem.W.tabIn K "law" = some (c, T) ∧ (∀ (H : Hp) (a : Addr) (ns : List Int), ns.length ≤ 63 → H T = some (.tbl #[]) → SqL K H a (ns.map V.int) → sp [.ref a] H (fun v _ => v = .bl true) fun _ _ _ => False) ∧ ∀ base : Heap, K.In base → base.Ns mainGlobals mg → (∃ o, base.get? sysModules = some o) → LamX.TabB base mg c T → DL.FnG l.prog w K mg base CX0 20 fa fd ["_law_script"] sp := by
  have c := c0.s
  obtain ⟨h_a0, h_k0, h_a1, h_k1, h_a2, h_k2, h_a3, h_k3, h_a4, h_k4, h_a5, h_k5, h_a6, h_k6, h_a7, h_k7⟩ := fc0_ok (c.fact1 0 (f := fc0) rfl)
  obtain ⟨h_a8, h_k8, h_a9, h_k9, h_a10, h_k10, h_a11, h_k11, h_a12, h_k12, h_a13, h_k13, h_a14, h_k14, h_a15, h_k15⟩ := fc1_ok (c.fact1 1 (f := fc1) rfl)
  obtain ⟨h_a16, h_k16, h_a17, h_k17, h_a18, h_k18, h_a19, h_k19, h_a20, h_k20, h_z_int, h_z_len, h_z_abs, h_z_range, h_z_tuple, h_z_list⟩ := fc2_ok (c.fact1 2 (f := fc2) rfl)
  obtain ⟨h_z_str, h_z_bool, h_z_isinstance, h_z_all, h_z_any, h_z_min, h_z_sum, h_z_zip, h_z_dict, h_z_repr, h_z_IndexError, h_tbL, h_zLONGEST_NAME, h_zaZ, h_rdZ, h_gaZ⟩ := fc3_ok (c.fact1 3 (f := fc3) rfl)
  obtain ⟨h_mcZ, h_gGe, h_gTk, h_zaLa, h_pgaLa, h_hdaLa, h_poaLa, h_saaLa, h_mkaLa, h_kcaLa, h_gClaLa, h_gObaLa, h_icLa, h_tyLa, h_nbLa_n, h_nbLa_b⟩ := fc4_ok (c.fact1 4 (f := fc4) rfl)
  obtain ⟨h_nbLa_i, h_nbLa_s, h_nbLa_l, h_nbLa_t, h_nbLa_d, h_aILa, h_iILa, h_kILa, h_spLa, h_aQLa, h_iQLa, h_kQLa, h_gNeLa, h_naLaitem, h_naLalevel, h_naLaspan⟩ := fc5_ok (c.fact1 5 (f := fc5) rfl)
  obtain ⟨h_naLaat, h_naLathrow, h_naLaslope, h_naLa_lifts, h_zaCu, h_pgaCu, h_hdaCu, h_poaCu, h_saaCu, h_mkaCu, h_kcaCu, h_gClaCu, h_gObaCu, h_icCu, h_tyCu, h_nbCu_n⟩ := fc6_ok (c.fact1 6 (f := fc6) rfl)
  obtain ⟨h_nbCu_b, h_nbCu_i, h_nbCu_s, h_nbCu_l, h_nbCu_t, h_nbCu_d, h_aICu, h_iICu, h_kICu, h_spCu, h_aQCu, h_iQCu, h_kQCu, h_gNeCu, h_naCuitem, h_naCulevel⟩ := fc7_ok (c.fact1 7 (f := fc7) rfl)
  obtain ⟨h_naCuspan, h_naCuat, h_naCuthrow, h_naCuslope, h_naCu_lifts, h_zaDi, h_pgaDi, h_hdaDi, h_poaDi, h_saaDi, h_mkaDi, h_kcaDi, h_gClaDi, h_gObaDi, h_icDi, h_tyDi⟩ := fc8_ok (c.fact1 8 (f := fc8) rfl)
  obtain ⟨h_nbDi_n, h_nbDi_b, h_nbDi_i, h_nbDi_s, h_nbDi_l, h_nbDi_t, h_nbDi_d, h_aIDi, h_iIDi, h_kIDi, h_aQDi, h_iQDi, h_kQDi, h_gNeDi, h_naDiitem, h_naDilevel⟩ := fc9_ok (c.fact1 9 (f := fc9) rfl)
  obtain ⟨h_naDispan, h_naDiat, h_naDithrow, h_naDislope, h_naDi_lifts, h_zaLi, h_pgaLi, h_hdaLi, h_poaLi, h_saaLi, h_mkaLi, h_kcaLi, h_gClaLi, h_gObaLi, h_icLi, h_tyLi⟩ := fc10_ok (c.fact1 10 (f := fc10) rfl)
  obtain ⟨h_nbLi_n, h_nbLi_b, h_nbLi_i, h_nbLi_s, h_nbLi_l, h_nbLi_t, h_nbLi_d, h_aILi, h_iILi, h_kILi, h_aQLi, h_iQLi, h_kQLi, h_gNeLi, h_naLiitem, h_naLilevel⟩ := fc11_ok (c.fact1 11 (f := fc11) rfl)
  obtain ⟨h_naLispan, h_naLiat, h_naLithrow, h_naLislope, h_naLi_lifts, h_zaFa, h_pgaFa, h_hdaFa, h_poaFa, h_saaFa, h_mkaFa, h_kcaFa, h_gClaFa, h_gObaFa, h_icFa, h_tyFa⟩ := fc12_ok (c.fact2 0 (f := fc12) rfl)
  obtain ⟨h_nbFa_n, h_nbFa_b, h_nbFa_i, h_nbFa_s, h_nbFa_l, h_nbFa_t, h_nbFa_d, h_aIFa, h_iIFa, h_kIFa, h_aQFa, h_iQFa, h_kQFa, h_gNeFa, h_naFaitem, h_naFalevel⟩ := fc13_ok (c.fact2 1 (f := fc13) rfl)
  obtain ⟨h_naFaspan, h_naFaat, h_naFathrow, h_naFaslope, h_naFa_lifts, h_zaTi, h_pgaTi, h_hdaTi, h_poaTi, h_saaTi, h_mkaTi, h_kcaTi, h_gClaTi, h_gObaTi, h_icTi, h_tyTi⟩ := fc14_ok (c.fact2 2 (f := fc14) rfl)
  obtain ⟨h_nbTi_n, h_nbTi_b, h_nbTi_i, h_nbTi_s, h_nbTi_l, h_nbTi_t, h_nbTi_d, h_aITi, h_iITi, h_kITi, h_aQTi, h_iQTi, h_kQTi, h_gNeTi, h_naTiitem, h_naTilevel⟩ := fc15_ok (c.fact2 3 (f := fc15) rfl)
  obtain ⟨h_naTispan, h_naTiat, h_naTithrow, h_naTislope, h_naTi_lifts, h_zaaN, h_xLaN, h_saaN, h_exaN, h_tyaN, h_kcaN, h_noaN, h_aIaN, h_kIaN, h_tIaN, h_gaXaN⟩ := fc16_ok (c.fact2 4 (f := fc16) rfl)
  obtain ⟨h_ggXaN, h_hdXaN, h_clXaN, h_suXaN, h_zaaL, h_xLaL, h_saaL, h_exaL, h_tyaL, h_kcaL, h_noaL, h_aIaL, h_kIaL, h_tIaL, h_gaXaL, h_ggXaL⟩ := fc17_ok (c.fact2 5 (f := fc17) rfl)
  obtain ⟨h_hdXaL, h_clXaL, h_suXaL, h_zaaP, h_xLaP, h_saaP, h_exaP, h_tyaP, h_kcaP, h_noaP, h_aIaP, h_kIaP, h_tIaP, h_gaXaP, h_ggXaP, h_hdXaP⟩ := fc18_ok (c.fact2 6 (f := fc18) rfl)
  obtain ⟨h_clXaP, h_suXaP, h_zaaW, h_xLaW, h_saaW, h_exaW, h_tyaW, h_kcaW, h_noaW, h_aIaW, h_kIaW, h_tIaW, h_gaXaW, h_ggXaW, h_hdXaW, h_clXaW⟩ := fc19_ok (c.fact2 7 (f := fc19) rfl)
  obtain ⟨h_suXaW, h_qLN, h_qPN, h_qPL, h_qWN, h_qWL, h_qWP, h_df_0, h_df_1, h_df_2, h_df_3, h_df_4, h_df_5, h_df_6, h_df_7, h_df_8⟩ := fc20_ok (c.fact2 8 (f := fc20) rfl)
  obtain ⟨h_df_9, h_df_10, h_df_11, h_df_12, h_df_13, h_df_14, h_df_15, h_df_16, h_df_17, h_df_18, h_df_19, h_df_20, h_df_ILa, h_kd_ILa, h_df_QLa, h_df_ICu⟩ := fc21_ok (c.fact2 9 (f := fc21) rfl)
  obtain ⟨h_kd_ICu, h_df_QCu, h_df_IDi, h_df_QDi, h_df_ILi, h_df_QLi, h_df_IFa, h_df_QFa, h_df_ITi, h_df_QTi, h_df_IaN, h_df_IaL, h_df_IaP, h_df_IaW⟩ := fc22_ok (c.fact2 10 (f := fc22) rfl)
  obtain ⟨oc0, od0, sl0, dV0, kV0, dc0, pm0, an0, cd0, ct0, l_0, c_0⟩ := c.def_ 0 (d := ⟨v_f0, "is_name", "is_name", defArgs sIsName, defBody sIsName, defScope sIsName⟩) rfl
  have e : dV0 = .none := (pDf_eq l_0).symm.trans h_df_0
  subst e
  obtain ⟨oc1, od1, sl1, dV1, kV1, dc1, pm1, an1, cd1, ct1, l_1, c_1⟩ := c.def_ 1 (d := ⟨v_f1, "is_level", "is_level", defArgs sIsLevel, defBody sIsLevel, defScope sIsLevel⟩) rfl
  have e : dV1 = .none := (pDf_eq l_1).symm.trans h_df_1
  subst e
  obtain ⟨oc2, od2, sl2, dV2, kV2, dc2, pm2, an2, cd2, ct2, l_2, c_2⟩ := c.def_ 2 (d := ⟨v_f2, "is_index", "is_index", defArgs sIsIndex, defBody sIsIndex, defScope sIsIndex⟩) rfl
  have e : dV2 = .none := (pDf_eq l_2).symm.trans h_df_2
  subst e
  obtain ⟨oc3, od3, sl3, dV3, kV3, dc3, pm3, an3, cd3, ct3, l_3, c_3⟩ := c.def_ 3 (d := ⟨v_f3, "need_name", "need_name", defArgs sNeedName, defBody sNeedName, defScope sNeedName⟩) rfl
  have e : dV3 = .none := (pDf_eq l_3).symm.trans h_df_3
  subst e
  obtain ⟨oc4, od4, sl4, dV4, kV4, dc4, pm4, an4, cd4, ct4, l_4, c_4⟩ := c.def_ 4 (d := ⟨v_f4, "need_level", "need_level", defArgs sNeedLevel, defBody sNeedLevel, defScope sNeedLevel⟩) rfl
  have e : dV4 = .none := (pDf_eq l_4).symm.trans h_df_4
  subst e
  obtain ⟨oc5, od5, sl5, dV5, kV5, dc5, pm5, an5, cd5, ct5, l_5, c_5⟩ := c.def_ 5 (d := ⟨v_f5, "is_width", "is_width", defArgs sIsWidth, defBody sIsWidth, defScope sIsWidth⟩) rfl
  have e : dV5 = .none := (pDf_eq l_5).symm.trans h_df_5
  subst e
  obtain ⟨oc6, od6, sl6, dV6, kV6, dc6, pm6, an6, cd6, ct6, l_6, c_6⟩ := c.def_ 6 (d := ⟨v_f6, "need_column", "need_column", defArgs sNeedColumn, defBody sNeedColumn, defScope sNeedColumn⟩) rfl
  have e : dV6 = .none := (pDf_eq l_6).symm.trans h_df_6
  subst e
  obtain ⟨oc7, od7, sl7, dV7, kV7, dc7, pm7, an7, cd7, ct7, l_7, c_7⟩ := c.def_ 7 (d := ⟨v_f7, "is_span", "is_span", defArgs sIsSpan, defBody sIsSpan, defScope sIsSpan⟩) rfl
  have e : dV7 = .none := (pDf_eq l_7).symm.trans h_df_7
  subst e
  obtain ⟨oc8, od8, sl8, dV8, kV8, dc8, pm8, an8, cd8, ct8, l_8, c_8⟩ := c.def_ 8 (d := ⟨v_f8, "need_span_or_none", "need_span_or_none", defArgs sNeedSpanOrNone, defBody sNeedSpanOrNone, defScope sNeedSpanOrNone⟩) rfl
  have e : dV8 = .none := (pDf_eq l_8).symm.trans h_df_8
  subst e
  obtain ⟨oc9, od9, sl9, dV9, kV9, dc9, pm9, an9, cd9, ct9, l_9, c_9⟩ := c.def_ 9 (d := ⟨v_f9, "copied", "copied", defArgs sCopied, defBody sCopied, defScope sCopied⟩) rfl
  have e : dV9 = .none := (pDf_eq l_9).symm.trans h_df_9
  subst e
  obtain ⟨oc10, od10, sl10, dV10, kV10, dc10, pm10, an10, cd10, ct10, l_10, c_10⟩ := c.def_ 10 (d := ⟨v_f10, "_law_feed", "_law_feed", defArgs sFeed, defBody sFeed, defScope sFeed⟩) rfl
  have e : dV10 = .none := (pDf_eq l_10).symm.trans h_df_10
  subst e
  obtain ⟨oc11, od11, sl11, dV11, kV11, dc11, pm11, an11, cd11, ct11, l_11, c_11⟩ := c.def_ 11 (d := ⟨v_f11, "_law_draw", "_law_draw", defArgs sDraw, defBody sDraw, defScope sDraw⟩) rfl
  have e : dV11 = .none := (pDf_eq l_11).symm.trans h_df_11
  subst e
  obtain ⟨oc12, od12, sl12, dV12, kV12, dc12, pm12, an12, cd12, ct12, l_12, c_12⟩ := c.def_ 12 (d := ⟨v_f12, "_law_pick", "_law_pick", defArgs sPick, defBody sPick, defScope sPick⟩) rfl
  have e : dV12 = .none := (pDf_eq l_12).symm.trans h_df_12
  subst e
  obtain ⟨oc13, od13, sl13, dV13, kV13, dc13, pm13, an13, cd13, ct13, l_13, c_13⟩ := c.def_ 13 (d := ⟨v_f13, "_law_any", "_law_any", defArgs sAny, defBody sAny, defScope sAny⟩) rfl
  have e : dV13 = .none := (pDf_eq l_13).symm.trans h_df_13
  subst e
  obtain ⟨oc14, od14, sl14, dV14, kV14, dc14, pm14, an14, cd14, ct14, l_14, c_14⟩ := c.def_ 14 (d := ⟨v_f14, "_law_is_int", "_law_is_int", defArgs sIsInt, defBody sIsInt, defScope sIsInt⟩) rfl
  have e : dV14 = .none := (pDf_eq l_14).symm.trans h_df_14
  subst e
  obtain ⟨oc15, od15, sl15, dV15, kV15, dc15, pm15, an15, cd15, ct15, l_15, c_15⟩ := c.def_ 15 (d := ⟨v_f15, "_law_is_word", "_law_is_word", defArgs sIsWord, defBody sIsWord, defScope sIsWord⟩) rfl
  have e : dV15 = .none := (pDf_eq l_15).symm.trans h_df_15
  subst e
  obtain ⟨oc16, od16, sl16, dV16, kV16, dc16, pm16, an16, cd16, ct16, l_16, c_16⟩ := c.def_ 16 (d := ⟨v_f16, "_law_caught", "_law_caught", defArgs sCaught, defBody sCaught, defScope sCaught⟩) rfl
  have e : dV16 = .none := (pDf_eq l_16).symm.trans h_df_16
  subst e
  obtain ⟨oc17, od17, sl17, dV17, kV17, dc17, pm17, an17, cd17, ct17, l_17, c_17⟩ := c.def_ 17 (d := ⟨v_f17, "_law_looked", "_law_looked", defArgs sLooked, defBody sLooked, defScope sLooked⟩) rfl
  have e : dV17 = .none := (pDf_eq l_17).symm.trans h_df_17
  subst e
  obtain ⟨oc18, od18, sl18, dV18, kV18, dc18, pm18, an18, cd18, ct18, l_18, c_18⟩ := c.def_ 18 (d := ⟨v_f18, "_law_due_lift", "_law_due_lift", defArgs sDueLift, defBody sDueLift, defScope sDueLift⟩) rfl
  have e : dV18 = .none := (pDf_eq l_18).symm.trans h_df_18
  subst e
  obtain ⟨oc19, od19, sl19, dV19, kV19, dc19, pm19, an19, cd19, ct19, l_19, c_19⟩ := c.def_ 19 (d := ⟨v_f19, "_law_some_lifts", "_law_some_lifts", defArgs sSomeLifts, defBody sSomeLifts, defScope sSomeLifts⟩) rfl
  have e : dV19 = .none := (pDf_eq l_19).symm.trans h_df_19
  subst e
  obtain ⟨oc20, od20, sl20, dV20, kV20, dc20, pm20, an20, cd20, ct20, l_20, c_20⟩ := c.def_ 20 (d := ⟨v_f20, "law", "law", defArgs sLaw, defBody sLaw, defScope sLaw⟩) rfl
  have e : dV20 = .none := (pDf_eq l_20).symm.trans h_df_20
  subst e
  obtain ⟨ocILa, odILa, slILa, dVILa, kVILa, dcILa, pmILa, anILa, cdILa, ctILa, l_ILa, c_ILa⟩ := c.def_ 21 (d := ⟨v_fILa, "__init__", "Lay.__init__", defArgs sLayI, defBody sLayI, defScope sLayI⟩) rfl
  have e : dVILa = .none := (pDf_eq l_ILa).symm.trans h_df_ILa
  subst e
  have e : kVILa = (.ref (v_aKLa K)) := (pKd_eq l_ILa).symm.trans h_kd_ILa
  subst e
  obtain ⟨ocQLa, odQLa, slQLa, dVQLa, kVQLa, dcQLa, pmQLa, anQLa, cdQLa, ctQLa, l_QLa, c_QLa⟩ := c.def_ 22 (d := ⟨v_fQLa, "__eq__", "Lay.__eq__", defArgs sLayE, defBody sLayE, defScope sLayE⟩) rfl
  have e : dVQLa = .none := (pDf_eq l_QLa).symm.trans h_df_QLa
  subst e
  obtain ⟨ocICu, odICu, slICu, dVICu, kVICu, dcICu, pmICu, anICu, cdICu, ctICu, l_ICu, c_ICu⟩ := c.def_ 23 (d := ⟨v_fICu, "__init__", "Cut.__init__", defArgs sCutI, defBody sCutI, defScope sCutI⟩) rfl
  have e : dVICu = .none := (pDf_eq l_ICu).symm.trans h_df_ICu
  subst e
  have e : kVICu = (.ref (v_aKCu K)) := (pKd_eq l_ICu).symm.trans h_kd_ICu
  subst e
  obtain ⟨ocQCu, odQCu, slQCu, dVQCu, kVQCu, dcQCu, pmQCu, anQCu, cdQCu, ctQCu, l_QCu, c_QCu⟩ := c.def_ 24 (d := ⟨v_fQCu, "__eq__", "Cut.__eq__", defArgs sCutE, defBody sCutE, defScope sCutE⟩) rfl
  have e : dVQCu = .none := (pDf_eq l_QCu).symm.trans h_df_QCu
  subst e
  obtain ⟨ocIDi, odIDi, slIDi, dVIDi, kVIDi, dcIDi, pmIDi, anIDi, cdIDi, ctIDi, l_IDi, c_IDi⟩ := c.def_ 25 (d := ⟨v_fIDi, "__init__", "Dike.__init__", defArgs sDikeI, defBody sDikeI, defScope sDikeI⟩) rfl
  have e : dVIDi = .none := (pDf_eq l_IDi).symm.trans h_df_IDi
  subst e
  obtain ⟨ocQDi, odQDi, slQDi, dVQDi, kVQDi, dcQDi, pmQDi, anQDi, cdQDi, ctQDi, l_QDi, c_QDi⟩ := c.def_ 26 (d := ⟨v_fQDi, "__eq__", "Dike.__eq__", defArgs sDikeE, defBody sDikeE, defScope sDikeE⟩) rfl
  have e : dVQDi = .none := (pDf_eq l_QDi).symm.trans h_df_QDi
  subst e
  obtain ⟨ocILi, odILi, slILi, dVILi, kVILi, dcILi, pmILi, anILi, cdILi, ctILi, l_ILi, c_ILi⟩ := c.def_ 27 (d := ⟨v_fILi, "__init__", "Lift.__init__", defArgs sLiftI, defBody sLiftI, defScope sLiftI⟩) rfl
  have e : dVILi = .none := (pDf_eq l_ILi).symm.trans h_df_ILi
  subst e
  obtain ⟨ocQLi, odQLi, slQLi, dVQLi, kVQLi, dcQLi, pmQLi, anQLi, cdQLi, ctQLi, l_QLi, c_QLi⟩ := c.def_ 28 (d := ⟨v_fQLi, "__eq__", "Lift.__eq__", defArgs sLiftE, defBody sLiftE, defScope sLiftE⟩) rfl
  have e : dVQLi = .none := (pDf_eq l_QLi).symm.trans h_df_QLi
  subst e
  obtain ⟨ocIFa, odIFa, slIFa, dVIFa, kVIFa, dcIFa, pmIFa, anIFa, cdIFa, ctIFa, l_IFa, c_IFa⟩ := c.def_ 29 (d := ⟨v_fIFa, "__init__", "Fault.__init__", defArgs sFaultI, defBody sFaultI, defScope sFaultI⟩) rfl
  have e : dVIFa = .none := (pDf_eq l_IFa).symm.trans h_df_IFa
  subst e
  obtain ⟨ocQFa, odQFa, slQFa, dVQFa, kVQFa, dcQFa, pmQFa, anQFa, cdQFa, ctQFa, l_QFa, c_QFa⟩ := c.def_ 30 (d := ⟨v_fQFa, "__eq__", "Fault.__eq__", defArgs sFaultE, defBody sFaultE, defScope sFaultE⟩) rfl
  have e : dVQFa = .none := (pDf_eq l_QFa).symm.trans h_df_QFa
  subst e
  obtain ⟨ocITi, odITi, slITi, dVITi, kVITi, dcITi, pmITi, anITi, cdITi, ctITi, l_ITi, c_ITi⟩ := c.def_ 31 (d := ⟨v_fITi, "__init__", "Tilt.__init__", defArgs sTiltI, defBody sTiltI, defScope sTiltI⟩) rfl
  have e : dVITi = .none := (pDf_eq l_ITi).symm.trans h_df_ITi
  subst e
  obtain ⟨ocQTi, odQTi, slQTi, dVQTi, kVQTi, dcQTi, pmQTi, anQTi, cdQTi, ctQTi, l_QTi, c_QTi⟩ := c.def_ 32 (d := ⟨v_fQTi, "__eq__", "Tilt.__eq__", defArgs sTiltE, defBody sTiltE, defScope sTiltE⟩) rfl
  have e : dVQTi = .none := (pDf_eq l_QTi).symm.trans h_df_QTi
  subst e
  obtain ⟨ocIaN, odIaN, slIaN, dVIaN, kVIaN, dcIaN, pmIaN, anIaN, cdIaN, ctIaN, l_IaN, c_IaN⟩ := c.def_ 33 (d := ⟨v_fIaN, "__init__", "InvalidName.__init__", defArgs sInvalidNameInit, defBody sInvalidNameInit, defScope sInvalidNameInit⟩) rfl
  have e : dVIaN = .none := (pDf_eq l_IaN).symm.trans h_df_IaN
  subst e
  obtain ⟨ocIaL, odIaL, slIaL, dVIaL, kVIaL, dcIaL, pmIaL, anIaL, cdIaL, ctIaL, l_IaL, c_IaL⟩ := c.def_ 34 (d := ⟨v_fIaL, "__init__", "InvalidLevel.__init__", defArgs sInvalidLevelInit, defBody sInvalidLevelInit, defScope sInvalidLevelInit⟩) rfl
  have e : dVIaL = .none := (pDf_eq l_IaL).symm.trans h_df_IaL
  subst e
  obtain ⟨ocIaP, odIaP, slIaP, dVIaP, kVIaP, dcIaP, pmIaP, anIaP, cdIaP, ctIaP, l_IaP, c_IaP⟩ := c.def_ 35 (d := ⟨v_fIaP, "__init__", "NoColumn.__init__", defArgs sNoColumnInit, defBody sNoColumnInit, defScope sNoColumnInit⟩) rfl
  have e : dVIaP = .none := (pDf_eq l_IaP).symm.trans h_df_IaP
  subst e
  obtain ⟨ocIaW, odIaW, slIaW, dVIaW, kVIaW, dcIaW, pmIaW, anIaW, cdIaW, ctIaW, l_IaW, c_IaW⟩ := c.def_ 36 (d := ⟨v_fIaW, "__init__", "WrongWidth.__init__", defArgs sWrongWidthInit, defBody sWrongWidthInit, defScope sWrongWidthInit⟩) rfl
  have e : dVIaW = .none := (pDf_eq l_IaW).symm.trans h_df_IaW
  subst e
  obtain ⟨q_nmaN, q_qaN, q_NaN, q_bsaN, q_snaN, q_subaN, q_abaN, q_colaN, q_ddaN, q_m0aN, q_m1aN, q_m2aN, q_m3aN, q_m5aN, X_xLaN⟩ := DL.clsB_ok h_xLaN
  obtain ⟨q_nmaL, q_qaL, q_NaL, q_bsaL, q_snaL, q_subaL, q_abaL, q_colaL, q_ddaL, q_m0aL, q_m1aL, q_m2aL, q_m3aL, q_m5aL, X_xLaL⟩ := DL.clsB_ok h_xLaL
  obtain ⟨q_nmaP, q_qaP, q_NaP, q_bsaP, q_snaP, q_subaP, q_abaP, q_colaP, q_ddaP, q_m0aP, q_m1aP, q_m2aP, q_m3aP, q_m5aP, X_xLaP⟩ := DL.clsB_ok h_xLaP
  obtain ⟨q_nmaW, q_qaW, q_NaW, q_bsaW, q_snaW, q_subaW, q_abaW, q_colaW, q_ddaW, q_m0aW, q_m1aW, q_m2aW, q_m3aW, q_m5aW, X_xLaW⟩ := DL.clsB_ok h_xLaW
  exact all_mk X G hfa h_a0 l_0 c_0 h_k0 h_a1 l_1 c_1 h_k1 h_a2 l_2 c_2 h_k2 h_a3 l_3 c_3 h_k3 h_a4 l_4 c_4 h_k4 h_a5 l_5 c_5 h_k5 h_a6 l_6 c_6 h_k6 h_a7 l_7 c_7 h_k7 h_a8 l_8 c_8 h_k8 h_a9 l_9 c_9 h_k9 h_a10 l_10 c_10 h_k10 h_a11 l_11 c_11 h_k11 h_a12 l_12 c_12 h_k12 h_a13 l_13 c_13 h_k13 h_a14 l_14 c_14 h_k14 h_a15 l_15 c_15 h_k15 h_a16 l_16 c_16 h_k16 h_a17 l_17 c_17 h_k17 h_a18 l_18 c_18 h_k18 h_a19 l_19 c_19 h_k19 h_a20 l_20 c_20 h_k20 h_z_int h_z_len h_z_abs h_z_range h_z_tuple h_z_list h_z_str h_z_bool h_z_isinstance h_z_all h_z_any h_z_min h_z_sum h_z_zip h_z_dict h_z_repr h_z_IndexError h_tbL h_zLONGEST_NAME h_zaZ h_rdZ h_gaZ (DL.cfV_ok h_mcZ) h_gGe h_gTk h_zaLa h_pgaLa h_hdaLa h_poaLa h_saaLa h_mkaLa h_kcaLa h_gClaLa h_gObaLa h_icLa h_tyLa h_nbLa_n h_nbLa_b h_nbLa_i h_nbLa_s h_nbLa_l h_nbLa_t h_nbLa_d h_aILa h_iILa l_ILa c_ILa h_kILa h_spLa h_aQLa h_iQLa l_QLa c_QLa h_kQLa h_gNeLa h_naLaitem h_naLalevel h_naLaspan h_naLaat h_naLathrow h_naLaslope h_naLa_lifts h_zaCu h_pgaCu h_hdaCu h_poaCu h_saaCu h_mkaCu h_kcaCu h_gClaCu h_gObaCu h_icCu h_tyCu h_nbCu_n h_nbCu_b h_nbCu_i h_nbCu_s h_nbCu_l h_nbCu_t h_nbCu_d h_aICu h_iICu l_ICu c_ICu h_kICu h_spCu h_aQCu h_iQCu l_QCu c_QCu h_kQCu h_gNeCu h_naCuitem h_naCulevel h_naCuspan h_naCuat h_naCuthrow h_naCuslope h_naCu_lifts h_zaDi h_pgaDi h_hdaDi h_poaDi h_saaDi h_mkaDi h_kcaDi h_gClaDi h_gObaDi h_icDi h_tyDi h_nbDi_n h_nbDi_b h_nbDi_i h_nbDi_s h_nbDi_l h_nbDi_t h_nbDi_d h_aIDi h_iIDi l_IDi c_IDi h_kIDi h_aQDi h_iQDi l_QDi c_QDi h_kQDi h_gNeDi h_naDiitem h_naDilevel h_naDispan h_naDiat h_naDithrow h_naDislope h_naDi_lifts h_zaLi h_pgaLi h_hdaLi h_poaLi h_saaLi h_mkaLi h_kcaLi h_gClaLi h_gObaLi h_icLi h_tyLi h_nbLi_n h_nbLi_b h_nbLi_i h_nbLi_s h_nbLi_l h_nbLi_t h_nbLi_d h_aILi h_iILi l_ILi c_ILi h_kILi h_aQLi h_iQLi l_QLi c_QLi h_kQLi h_gNeLi h_naLiitem h_naLilevel h_naLispan h_naLiat h_naLithrow h_naLislope h_naLi_lifts h_zaFa h_pgaFa h_hdaFa h_poaFa h_saaFa h_mkaFa h_kcaFa h_gClaFa h_gObaFa h_icFa h_tyFa h_nbFa_n h_nbFa_b h_nbFa_i h_nbFa_s h_nbFa_l h_nbFa_t h_nbFa_d h_aIFa h_iIFa l_IFa c_IFa h_kIFa h_aQFa h_iQFa l_QFa c_QFa h_kQFa h_gNeFa h_naFaitem h_naFalevel h_naFaspan h_naFaat h_naFathrow h_naFaslope h_naFa_lifts h_zaTi h_pgaTi h_hdaTi h_poaTi h_saaTi h_mkaTi h_kcaTi h_gClaTi h_gObaTi h_icTi h_tyTi h_nbTi_n h_nbTi_b h_nbTi_i h_nbTi_s h_nbTi_l h_nbTi_t h_nbTi_d h_aITi h_iITi l_ITi c_ITi h_kITi h_aQTi h_iQTi l_QTi c_QTi h_kQTi h_gNeTi h_naTiitem h_naTilevel h_naTispan h_naTiat h_naTithrow h_naTislope h_naTi_lifts h_zaaN X_xLaN h_saaN h_exaN h_tyaN h_kcaN h_noaN h_aIaN l_IaN c_IaN h_kIaN h_tIaN h_gaXaN h_ggXaN h_hdXaN h_clXaN h_suXaN h_zaaL X_xLaL h_saaL h_exaL h_tyaL h_kcaL h_noaL h_aIaL l_IaL c_IaL h_kIaL h_tIaL h_gaXaL h_ggXaL h_hdXaL h_clXaL h_suXaL h_zaaP X_xLaP h_saaP h_exaP h_tyaP h_kcaP h_noaP h_aIaP l_IaP c_IaP h_kIaP h_tIaP h_gaXaP h_ggXaP h_hdXaP h_clXaP h_suXaP h_zaaW X_xLaW h_saaW h_exaW h_tyaW h_kcaW h_noaW h_aIaW l_IaW c_IaW h_kIaW h_tIaW h_gaXaW h_ggXaW h_hdXaW h_clXaW h_suXaW h_qLN h_qPN h_qPL h_qWN h_qWL h_qWP
theorem tab_fact {K : PySem.W.Frag} (c0 : SaysPT ex1 ex2 fnL K) : PySem.W.tabIn K "law" = some (v_cL K, v_Pt K) := by
  have c := c0.s
  obtain ⟨h_z_str, h_z_bool, h_z_isinstance, h_z_all, h_z_any, h_z_min, h_z_sum, h_z_zip, h_z_dict, h_z_repr, h_z_IndexError, h_tbL, h_zLONGEST_NAME, h_zaZ, h_rdZ, h_gaZ⟩ := fc3_ok (c.fact1 3 (f := fc3) rfl)
  exact h_tbL
end Rk

set_option Elab.async false
set_option linter.all false
set_option maxRecDepth 100000
set_option maxHeartbeats 0
open PySem PySem.W PySem.Calls PyProof.Rows
set_option maxRecDepth 100000 in
set_option maxHeartbeats 0 in
theorem PySem.Challenge.cw_rockbeds_k19_events_refused_holds : PySem.Challenge.rw_rockbeds_k19_events_refused.Holds := by
  w_on; o_law
  refine HandSHeadRun.head_any (r := OpenLaw.row PySem.Challenge.rw_rockbeds_k19_events_refused) (q := view (OpenLaw.row PySem.Challenge.rw_rockbeds_k19_events_refused).prog [81]) (H := DL.hookPT Rk.ex1 Rk.ex2 Rk.fnL) (ob := DL.obPT Rk.ex1 Rk.ex2 Rk.fnL) (M := 12000) (loose := Rk.loL) (d := HandSHeadRun.topDef (OpenLaw.row PySem.Challenge.rw_rockbeds_k19_events_refused).prog 81) (kwd := []) (DL.obPT_eq _ _ _)
    (by kernel_rfl) (fun s => by kernel_rfl) Rk.run (by kernel_rfl) (by kernel_rfl) (by kernel_rfl) (by rfl) (by first | assumption | decide +kernel) (by decide +kernel) ⟨rfl, rfl, rfl, rfl, rfl, by decide +kernel⟩ ?hw ?hc
  case hw => w_witness2
  case hc =>
    refine DL.walk_ofGET (l := PySem.Challenge.rw_rockbeds_k19_events_refused) (n := 63) (k := 20) (x := "_law_script") (CX := L2.CX0) rfl (by decide) (by kernel_rfl) ⟨rfl, by decide, by decide⟩ (by decide +kernel) (by kernel_rfl) ?F (fun _ _ _ _ z => z)
    intro w mg fa h Y G hmg0
    obtain ⟨K, KX, c⟩ := Y
    have hmg : mg ("law" : PySem.Str) = some (.ref fa) := by
      have e : (HandSHeadRun.topDef (OpenLaw.row PySem.Challenge.rw_rockbeds_k19_events_refused).prog 81).name = ("law" : PySem.Str) := by kernel_rfl
      rw [← e]
      exact hmg0
    obtain ⟨fd, cc, TT, sp, hb, htb, hsp, hF⟩ := Rk.facts (l := PySem.Challenge.rw_rockbeds_k19_events_refused) (w := w) KX G hmg c
    have en : (HandSHeadRun.topDef (OpenLaw.row PySem.Challenge.rw_rockbeds_k19_events_refused).prog 81).name = ("law" : PySem.Str) := by kernel_rfl
    have htb2 := htb
    rw [← en] at htb2
    obtain ⟨e1, e2⟩ := Prod.mk.inj (Option.some.inj (htb.symm.trans (Rk.tab_fact c)))
    subst e1
    subst e2
    exact ⟨K, fd, _, _, sp, KX, hb, htb2, c.out, c.hd, hsp, hF⟩
