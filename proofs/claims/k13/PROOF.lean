import PyProof.Rows.All
import Wide.All
import OpenK.AllK
import Wide.FinOn
import HandS.ForMost
import HandS.Wide
import HandS.IsInst
import HandS.Style
import HandS.Flow
import HandS.Evl
import HandS.Walk
import HandS.Codes
import PyProof.Rows.ReprR
import HandS.Exc
import HandS.TryMany
import HandS.ExcInit
import HandS.ExcField
import HandS.Property
import HandS.Defaults
import HandS.ClsMeth
import PyProof.ListStr
import HandS.CallSlots
import HandS.WordsExc
import PyProof.ReprBulk
import HandS.HotCalls
import HandS.SetKeys
import HandS.Star
import KE.KOpsOwn
import PyProof.Rows.SortShellAny
import HandS.Set
import HandS.Strs
import HandS.SetFor
import HandS.More
import HandS.NoneIn
import HandS.GenList
import HandS.DictComp
import HandS.ListItems
import HandS.NestedHot
import HandS.NestedK
import HandS.Finally
import HandS.SuiteRaise
import HandS.RaiseMore
import HandS.RaiseFrom
import HandS.ExcInitHot
import HandS.Nested
import HandS.EndTab
import HandS.MakeKwOnly
import HandS.TryElse
import KE.KFinally
import KE.KExcRaise
import HandS.Deep
import PySem.Challenge.RW_innercommits_k13_within_leaves_all
set_option Elab.async false
set_option linter.all false
set_option maxRecDepth 100000
set_option maxHeartbeats 4000000
namespace IC
open PySem L2 TL
/-! ### heaps: all but the addresses of l stand as they stood -/
def Kp (l : List Addr) (H H' : Hp) : Prop := ∀ b o, H b = some o → b ∉ l → H' b = some o
theorem Kp.refl (l : List Addr) (H : Hp) : Kp l H H := fun _ _ e _ => e
theorem Kp.trans {l : List Addr} {H H1 H2 : Hp} (a : Kp l H H1) (b : Kp l H1 H2) : Kp l H H2 := fun c o e h => b c o (a c o e h) h
theorem Kp.same {l : List Addr} {H H' : Hp} (a : Same H H') : Kp l H H' := fun b o e _ => a b o e
theorem Kp.at_ {l : List Addr} {H : Hp} {p : Addr} {o : HO} (h : p ∈ l) : Kp l H (upd H p o) := fun b u e hb => by
  have q : b ≠ p := fun z => hb (by rw [z]; exact h)
  rw [upd_ne q]; exact e
theorem Kp.new {l : List Addr} {H : Hp} {p : Addr} {o : HO} (h : H p = none) : Kp l H (upd H p o) := fun b u e _ => by
  rw [upd_ne (ne_of_none e h)]; exact e
theorem Kp.mut {l : List Addr} {H H' : Hp} {p : Addr} {o : HO} (a : Kp l H H') (h : H p = none) : Kp l H (upd H' p o) := fun b u e hb => by
  rw [upd_ne (ne_of_none e h)]; exact a b u e hb
theorem Kp.mutAt {l : List Addr} {H H' : Hp} {p : Addr} {o : HO} (a : Kp l H H') (h : p ∈ l) : Kp l H (upd H' p o) := a.trans (Kp.at_ h)
theorem none_of {H : Hp} {p D : Addr} {o : HO} (h : upd H p o D = none) : p ≠ D ∧ H D = none := by
  have q : p ≠ D := ne_of_none upd_same h
  rw [upd_ne q.symm] at h
  exact ⟨q, h⟩
theorem Same.new {H : Hp} {p : Addr} {o : HO} (h : H p = none) : Same H (upd H p o) := fun b u e => by
  rw [upd_ne (ne_of_none e h)]; exact e

/-! ### the pool of numbers -/
def pl (a b c : Int) : List V := [.int a, .int b, .int c]
def PoolAt (H : Hp) (p : Addr) (n : Int) : Prop := ∃ a b c : Int, H p = some (.lst (pl a b c)) ∧ 0 ≤ a ∧ 0 ≤ b ∧ b < 2 ^ 63 ∧ 0 ≤ c ∧ c ≤ n
theorem PoolAt.up {H : Hp} {p : Addr} {n m : Int} (h : PoolAt H p n) (e : n ≤ m) : PoolAt H p m := by
  obtain ⟨a, b, c, h1, h2, h3, h4, h5, h6⟩ := h
  exact ⟨a, b, c, h1, h2, h3, h4, h5, Int.le_trans h6 e⟩
theorem PoolAt.mv {H H' : Hp} {p : Addr} {n : Int} (h : PoolAt H p n) (e : ∀ o, H p = some o → H' p = some o) : PoolAt H' p n := by
  obtain ⟨a, b, c, h1, h⟩ := h
  exact ⟨a, b, c, e _ h1, h⟩
/-- _law_draw(pool, many): a number below many; only the pool changes -/
def spDraw : Sp := fun vs H Q _ => ∃ (p : Addr) (m n : Int), vs = [.ref p, .int m] ∧ PoolAt H p n ∧ n < 1000000000 ∧ 0 < m ∧ m.natAbs < 2 ^ 200 ∧
  ∀ (d : Int) (o : HO), 0 ≤ d → d < m → PoolAt (upd H p o) p (n + 1) → Q (.int d) (upd H p o)
/-- _law_pool(script, at): a new pool -/
def spPool (K : PySem.W.Frag) : Sp := fun vs H Q _ => ∃ (a : Addr) (ns : List Int) (j : Nat), vs = [.ref a, .int j] ∧ SqL K H a (ns.map V.int) ∧ j < 64 ∧
  ∀ (p : Addr) (o : HO), H p = none → PoolAt (upd H p o) p 0 → Q (.ref p) (upd H p o)

/-- a def of the text by its name: it keeps the promise sp -/
structure Df (P : Program) (w : World) (K : PySem.W.Frag) (mg : Str → Option Value) (base : Heap) (k : Nat) (x : Str) (ps : List Str) (sp : Sp) : Prop where
  ex : ∃ (f : Addr) (fd : FuncData), FnOk P w K mg base CX0 k f fd ps sp ∧ mg x = some (.ref f) ∧ PySem.W.keepIn K (.ref f) = true ∧ Binds K fd ps []
theorem pe_df {X : Cx} {k j : Nat} {x : Str} {ps : List Str} {sp : Sp} {e : Expr} {es : List Expr} {t : TA} {p pos : Pos} (D : Df X.prog X.w X.K X.mg X.base k x ps sp) (hr : Room j X.A) (hk : k ≤ j) (hg : Gl X x)
    (ha : PA X (e :: es) t) (hdb : (x == ("__debug__" : Str)) = false := by decide) (he : starEach (e :: es) X.env = (false, eval e X.env) :: starEach es X.env := by rfl) (hpl : (backTo pos (starEach es X.env)).any (·.1) = false := by rfl) :
    PE X (.Call (.Name x p) (e :: es) [] pos) (tCall sp [] E0 t) := by
  obtain ⟨f, fd, F, hm, hkp, hb⟩ := D.ex
  exact pe_call F (hr.mono hk) hg hm hkp hb .nil pass0 ha hdb he hpl

/-! ### words -/
def Lt (c : Nat) : Prop := 97 ≤ c ∧ c ≤ 122
def IsW (z : Str) : Prop := 1 ≤ (tl z).length ∧ (tl z).length ≤ 8 ∧ ∀ c ∈ tl z, Lt c
def sgn (c : Nat) : Str := ⟨#[c]⟩
theorem joinL_one : ∀ cs : List Nat, joinL [] (cs.map fun c => [c]) = cs
  | [] => rfl
  | [c] => rfl
  | c :: d :: r => by
    show [c] ++ ([] ++ joinL [] ((d :: r).map fun c => [c])) = c :: d :: r
    rw [joinL_one (d :: r)]
    rfl
theorem tl_joined (cs : List Nat) : tl (Txt.join (Str.ofString "") (cs.map sgn)) = cs := by
  rw [join_eq, tl_join, List.map_map]
  exact joinL_one cs
def spWord : Sp := fun vs H Q _ => ∃ (p : Addr) (n : Int), vs = [.ref p] ∧ PoolAt H p n ∧ n < 900000000 ∧
  ∀ (z : Str) (H' : Hp), IsW z → PoolAt H' p (n + 9) → Kp [p] H H' → Q (.str z) H'
theorem abc_at (d : Int) (h0 : 0 ≤ d) (h1 : d < 26) : ∃ c, atI (Str.ofString "abcdefghijklmnopqrstuvwxyz").cps.toList d = some c ∧ Lt c := by
  have e : (Str.ofString "abcdefghijklmnopqrstuvwxyz").cps.toList = [97,98,99,100,101,102,103,104,105,106,107,108,109,110,111,112,113,114,115,116,117,118,119,120,121,122] := by decide +kernel
  rw [e]
  obtain ⟨j, rfl⟩ : ∃ j : Nat, d = j := ⟨d.toNat, by omega⟩
  have hj : j < 26 := by omega
  refine ⟨97 + j, atI_nat ?_, by unfold Lt; omega⟩
  have all : ∀ k : Fin 26, ([97,98,99,100,101,102,103,104,105,106,107,108,109,110,111,112,113,114,115,116,117,118,119,120,121,122] : List Nat)[k.val]? = some (97 + k.val) := by decide
  exact all ⟨j, hj⟩
/-- no text: a value of another type -/
def Oth (K : PySem.W.Frag) (H : Hp) (v : V) : Prop := ∃ T : String, TyX K H v (.type T) ∧ kitB T "str" = some false
def lB (c : Nat) : Bool := decide (97 ≤ c) && decide (c ≤ 122)
/-- is the text a word -/
def wB (z : Str) : Bool := decide (1 ≤ (tl z).length) && (decide ((tl z).length ≤ 8) && (tl z).all lB)
def spIsWord (K : PySem.W.Frag) : Sp := fun vs H Q _ => ∃ v : V, vs = [v] ∧ ((∃ z : Str, v = .str z ∧ (tl z).length ≤ 1000 ∧ ∀ H', Same H H' → Q (.bl (wB z)) H') ∨ (Oth K H v ∧ ∀ H', Same H H' → Q (.bl false) H'))
theorem len_le {z : Str} (h : (tl z).length ≤ 1000) : z.length ≤ sizeLine := by
  rw [len_tl]; exact Nat.le_of_lt (small1000 h)
theorem tl_one (c : Nat) : tl (⟨#[c]⟩ : Str) = [c] := rfl
theorem one_lt (c d : Nat) : ([c] < [d]) ↔ ¬ d ≤ c := by
  rw [List.cons_lt_cons_iff]
  simp
theorem lt_a (c : Nat) : decide ((⟨#[c]⟩ : Str).cps.toList < (Str.ofString "a").cps.toList) = !decide (97 ≤ c) := by
  have e : (Str.ofString "a").cps.toList = [97] := by decide +kernel
  rw [e]
  show decide ([c] < [97]) = _
  rw [Bool.eq_iff_iff, decide_eq_true_iff, Bool.not_eq_true', decide_eq_false_iff_not]
  exact one_lt c 97
theorem z_lt (c : Nat) : decide ((Str.ofString "z").cps.toList < (⟨#[c]⟩ : Str).cps.toList) = !decide (c ≤ 122) := by
  have e : (Str.ofString "z").cps.toList = [122] := by decide +kernel
  rw [e]
  show decide ([122] < [c]) = _
  rw [Bool.eq_iff_iff, decide_eq_true_iff, Bool.not_eq_true', decide_eq_false_iff_not]
  exact one_lt 122 c
theorem abc_mem (c : Nat) : decide (c ∈ (Str.ofString "abcdefghijklmnopqrstuvwxyz").cps.toList) = lB c := by
  have e : (Str.ofString "abcdefghijklmnopqrstuvwxyz").cps.toList = [97,98,99,100,101,102,103,104,105,106,107,108,109,110,111,112,113,114,115,116,117,118,119,120,121,122] := by decide +kernel
  rw [e]
  unfold lB
  rw [Bool.eq_iff_iff]
  simp
  omega
theorem shaped_all {xs : List PyData} (h : ∀ x ∈ xs, PyData.canLay0 x = true ∧ PyData.depth x ≤ 20) : PyData.canLayAll0 xs = true ∧ PyData.depthAll xs ≤ 20 := by
  induction xs with
  | nil => exact ⟨rfl, Nat.zero_le _⟩
  | cons x r ih =>
    have h1 := h x List.mem_cons_self
    have h2 := ih fun y hy => h y (List.mem_cons_of_mem _ hy)
    refine ⟨?_, ?_⟩
    · show (PyData.canLay0 x && PyData.canLayAll0 r) = true
      rw [h1.1, h2.1]
      rfl
    · show max (PyData.depth x) (PyData.depthAll r) ≤ 20
      omega
theorem shaped_list {xs : List PyData} (h : ∀ x ∈ xs, PyData.canLay0 x = true ∧ PyData.depth x ≤ 20) : SeqAt.shaped (.list xs) = true := by
  obtain ⟨h1, h2⟩ := shaped_all h
  show (PyData.canLay0 (.list xs) && decide (PyData.depth (.list xs) ≤ 64)) = true
  have e1 : PyData.canLay0 (.list xs) = true := h1
  have e2 : PyData.depth (.list xs) = PyData.depthAll xs + 1 := rfl
  rw [e1, e2, decide_eq_true (by omega)]
  rfl
theorem dpAll_strs {K : PySem.W.Frag} {H : Hp} : ∀ zs : List Str, DpAll K H (zs.map V.str) (zs.map PyData.str)
  | [] => .nil
  | z :: r => .cons (.str z) (dpAll_strs r)
def Okc (c : Nat) : Prop := c < 1114112
theorem strOk_of {z : Str} (h : ∀ c ∈ tl z, Okc c) : PyData.strOk z = true := by
  unfold PyData.strOk
  rw [Array.all_eq_true_iff_forall_mem]
  intro c hc
  exact decide_eq_true (h c (by simpa [tl] using hc))
theorem shaped_strs (zs : List Str) (h : ∀ z ∈ zs, ∀ c ∈ tl z, Okc c) : SeqAt.shaped (.list (zs.map PyData.str)) = true := shaped_list fun x hx => by
  obtain ⟨z, hz, rfl⟩ := List.mem_map.mp hx
  exact ⟨strOk_of (h z hz), Nat.zero_le _⟩
/-- a comprehension over range(n) whose element is a drawn letter -/
theorem lc_draw {te : TE} {gi : Nat} {σ : L2.St} {H1 : Hp} {D p : Addr} {Qd : Hp → Prop} (n : Nat) (m : Int) (hn : n ≤ 1000) (hp : PoolAt H1 p m) (hD : H1 D = none)
    (hte : ∀ (x : V) (m' : Int) (H : Hp) (Q : VK), PoolAt H p m' → m' ≤ m + n → (∀ c o, Lt c → PoolAt (upd H p o) p (m' + 1) → Q (.str (sgn c)) (upd H p o)) → te ((σ.set gi none).set gi (some x)) H Q)
    (hd : ∀ (cs : List Nat) (H' : Hp), cs.length = n → (∀ c ∈ cs, Lt c) → H' D = some (.lst ((cs.map sgn).map V.str)) → PoolAt H' p (m + n) → Kp [p] H1 H' → Qd H') :
    ∃ W : Nat → Nat → Hp → Prop, (∃ m, W 0 m (upd H1 D (.lst []))) ∧ ∀ i m H, W i m H →
      ((Itr 0 n).stop i H ∧ Qd H) ∨ ((Itr 0 n).go i H ∧ ∃ Nx : Hp → Prop, (∀ H', Nx H' → ∃ m', m' < m ∧ W (i + 1) m' H') ∧ ∀ x H', (Itr 0 n).yld i H x H' → gName gi x (wipe σ [gi]) H' fun σ2 H2 => wipe σ2 [gi] = wipe σ [gi] ∧ tYes σ2 H2 fun b H3 =>
        if b = true then te σ2 H3 fun y H4 => ∃ acc, H4 D = some (.lst acc) ∧ acc.length < sizeLine ∧ Nx (upd H4 D (.lst (acc ++ [y]))) else Nx H3) := by
  have hpD : p ≠ D := by
    obtain ⟨a, b, c, e, _⟩ := hp
    exact ne_of_none e hD
  refine lc_range (lo := 0) (n := n) (fun i H' => ∃ cs : List Nat, cs.length = i ∧ (∀ c ∈ cs, Lt c) ∧ H' D = some (.lst ((cs.map sgn).map V.str)) ∧ PoolAt H' p (m + i) ∧ Kp [p] H1 H')
    ⟨[], rfl, by simp, upd_same, (hp.mv fun u e => by rw [upd_ne hpD]; exact e).up (by omega), Kp.new hD⟩ ?_ ?_
  · rintro i H' hi ⟨cs, hl, hc, hcD, hp2, kp⟩
    refine ⟨by simp [wipe], ?_⟩
    refine hte _ (m + i) H' _ hp2 (by omega) fun c o hL hp3 => ?_
    refine ⟨_, (by rw [upd_ne hpD.symm]; exact hcD), small1000 (by rw [List.length_map, List.length_map]; omega), cs ++ [c], by simp [hl], ?_, ?_, ?_, (kp.mutAt (by simp)).mut hD⟩
    · intro x hx
      rcases List.mem_append.mp hx with hx | hx
      · exact hc x hx
      · rw [List.mem_singleton.mp hx]; exact hL
    · rw [upd_same, List.map_append, List.map_append]
      rfl
    · exact (hp3.mv fun u q => by rw [upd_ne hpD]; exact q).up (by omega)
  · rintro H' ⟨cs, hl, hc, hcD, hp2, kp⟩
    exact hd cs H' hl hc hcD hp2 kp
theorem sum_sgn (cs : List Nat) : (List.map (fun z : Str => z.length) (cs.map sgn)).sum = cs.length := by
  rw [List.map_map]
  induction cs with
  | nil => rfl
  | cons c r ih => rw [List.map_cons, List.sum_cons, ih, List.length_cons]; show 1 + r.length = r.length + 1; omega
theorem Lt.ok {c : Nat} (h : Lt c) : Okc c := by
  have := h.2
  unfold Okc
  omega
/-- a text of few signs, or a thing of another kind -/
def Txt1 (z : Str) : Prop := (tl z).length ≤ 1000 ∧ ∀ c ∈ tl z, Okc c
def Thing (K : PySem.W.Frag) (H : Hp) (v : V) : Prop := (∃ z : Str, v = .str z ∧ Txt1 z) ∨ Oth K H v
theorem cutS_mem (z : Str) (lo hi : Option Int) : ∀ c ∈ tl (cutS z lo hi), c ∈ tl z := by
  intro c hc
  exact List.mem_of_mem_drop (List.mem_of_mem_take hc)
theorem oth_int {K : PySem.W.Frag} {H : Hp} {i : Int} : Oth K H (.int i) := ⟨"int", .base (.int i), by decide +kernel⟩
theorem oth_bl {K : PySem.W.Frag} {H : Hp} {b : Bool} : Oth K H (.bl b) := ⟨"bool", .base (.bl b), by decide +kernel⟩
theorem oth_non {K : PySem.W.Frag} {H : Hp} : Oth K H .non := ⟨"NoneType", .base .non, by decide +kernel⟩
theorem oth_lst {K : PySem.W.Frag} {H : Hp} {a : Addr} {xs : List V} (h : H a = some (.lst xs)) : Oth K H (.ref a) := ⟨"list", .base (.lst h), by decide +kernel⟩
theorem oth_tup {K : PySem.W.Frag} {H : Hp} {a : Addr} {xs : List V} (h : H a = some (.tup xs)) : Oth K H (.ref a) := ⟨"tuple", .base (.tup h), by decide +kernel⟩
theorem Kp.newAt {l : List Addr} {H H' : Hp} {p : Addr} {o : HO} (a : Kp l H H') (h : H' p = none) : Kp l H (upd H' p o) := a.trans (Kp.new h)
theorem Same.kp {H0 H H' : Hp} {p : Addr} (a : Same H0 H) (k : Kp [p] H H') (h : H0 p = none) : Same H0 H' := fun b o e => k b o (a b o e) (by
  intro z
  have q := List.mem_singleton.mp z
  rw [q, h] at e
  cases e)
theorem Oth.mv {K : PySem.W.Frag} {H H' : Hp} {v : V} (h : Oth K H v) (s : Same H H') : Oth K H' v := by
  obtain ⟨T, ty, kb⟩ := h
  refine ⟨T, ?_, kb⟩
  cases ty with
  | base b =>
    generalize ht : Value.type T = t at b
    cases b with
    | non => injection ht with ht; subst ht; exact .base .non
    | bl x => injection ht with ht; subst ht; exact .base (.bl x)
    | int i => injection ht with ht; subst ht; exact .base (.int i)
    | str x => injection ht with ht; subst ht; exact .base (.str x)
    | flt x => injection ht with ht; subst ht; exact .base (.flt x)
    | lst e => injection ht with ht; subst ht; exact .base (.lst (s _ _ e))
    | frz e => injection ht with ht; subst ht; exact .base (.frz (s _ _ e))
    | tup e => injection ht with ht; subst ht; exact .base (.tup (s _ _ e))
    | dK e => injection ht with ht; subst ht; exact .base (.dK (s _ _ e))
    | dT e => injection ht with ht; subst ht; exact .base (.dT (s _ _ e))
    | ins e => cases ht
  | byt b => exact .byt b
  | set e => exact .set (s _ _ e)
  | kList e c => exact .kList e c
  | kTuple e c => exact .kTuple e c
  | kDict e c => exact .kDict e c
  | fTuple e => exact .fTuple (s _ _ e)
  | fDict e => exact .fDict (s _ _ e)
def spLaw (K : PySem.W.Frag) : Sp := fun vs H Q _ => ∃ (a : Addr) (ns : List Int), vs = [.ref a] ∧ SqL K H a (ns.map V.int) ∧ ns.length ≤ 63 ∧ ∀ H', Q (.bl true) H'
end IC
namespace IC
open PySem PySem.Spec PyProof.Rows L2
/-! ### sets of texts that can be walked -/
def tk (e : Int × Value) : Str := match e.2 with
  | .str z _ => z
  | _ => Str.empty
def TxE (w : World) (e : Int × Value) : Prop := ∃ z k, e.2 = Value.str z k ∧ e.1 = hashStr w z
/-- at a a set of the texts L, none of them twice -/
def TxS (w : World) (h : Heap) (a : Addr) (L : List Str) : Prop :=
  ∃ o es ep t, h.get? a = some o ∧ o.ExactSet ∧ o.data = .set es ep t ∧ (∀ e ∈ es.toList, TxE w e) ∧ (es.toList.map tk).Perm L ∧ L.Nodup ∧ es.size < scanBound ∧ t.fits es.size = true ∧ Ris t.place.toList ∧ (w.params.followText "set-order" = true ∨ t.led = true)
section
variable {P : Program} {w : World} {h h' : Heap} {a : Addr} {L M : List Str}
theorem TxS.keep (R : TxS w h a L) (k : ∀ o, h.get? a = some o → h'.get? a = some o) : TxS w h' a L := by
  rcases R with ⟨o, es, ep, t, at_, r⟩
  exact ⟨o, es, ep, t, k o at_, r⟩
theorem TxS.perm (R : TxS w h a L) (p : L.Perm M) : TxS w h a M := by
  rcases R with ⟨o, es, ep, t, r1, r2, r3, r4, r5, r6, r7⟩
  exact ⟨o, es, ep, t, r1, r2, r3, r4, r5.trans p, p.nodup_iff.mp r6, r7⟩
theorem tx_elems {l : List (Int × Value)} (g : ∀ e ∈ l, TxE w e) : ElemsOf (PySem.strKind P w) l := fun e he => by
  rcases g e he with ⟨z, k, e1, e2⟩
  refine ⟨⟨z, ?_, e2⟩, ?_⟩
  · rw [e1]
    exact strKind_is P w z k
  · rw [e1]
    rfl
theorem tx_is {e : Int × Value} (g : TxE w e) (z : Str) : (PySem.strKind P w).is z e.2 = true ↔ tk e = z := by
  rcases g with ⟨y, k, e1, _⟩
  unfold tk
  rw [e1]
  show ((y == z) = true) ↔ y = z
  exact beq_iff_eq
end
section
variable {P : Program} {w : World} {A : Around} {E : Value → Shared → Prop} {s : Shared} {a : Addr} {L : List Str}
/-- the table is stored, and laid anew where it is too full -/
theorem tx_store {say : Bool → Sem Unit} (quiet : ∀ (b : Bool) (u : Shared) (R : Unit → Shared → Prop), R () u → wpAny (model P w) A (say b) R E u) {o : Obj} {es es1 : Array (Int × Value)} {ep : Nat} {t t1 : SetTable} (at_ : s.heap.get? a = some o) (ex : o.ExactSet) (dt : o.data = .set es ep t)
    (g : ∀ e ∈ es1.toList, TxE w e) (pm : (es1.toList.map tk).Perm L) (nd : L.Nodup) (few : es1.size < scanBound) (fit : t1.fits es1.size = true) (ris : Ris t1.place.toList) (led : w.params.followText "set-order" = true ∨ t1.led = true) {dummy : Bool} {R : Option Bool → Shared → Prop}
    (fin : ∀ h', Heap.SameBut a s.heap h' → TxS w h' a L → R (some true) { s with heap := h' }) :
    wpAny (model P w) A (do
      storeSet a es1 t1
      if (!dummy && t1.tooFull) = true then do
        say (relayAll t1 es1 (SetTable.grown es1.size)).2.2
        storeSet a (relayAll t1 es1 (SetTable.grown es1.size)).1 (relayAll t1 es1 (SetTable.grown es1.size)).2.1
        pure (some true)
      else pure (some true)) R E s := by
  have at1 := store_at (es' := es1) (t' := t1) at_ dt
  have sb := Heap.SameBut.update s.heap a (Obj.putSet es1 t1)
  refine wpAny_bind (wpAny_storeSet_of at_ dt ?_ (fits_of_scanBound few))
  by_cases full : (!dummy && t1.tooFull) = true
  · rw [if_pos full]
    have q1 := relayAll_perm t1 es1 (SetTable.grown es1.size)
    have q2 := relayAll_fits t1 es1 (SetTable.grown es1.size)
    have q3 := relayAll_ris t1 es1 (SetTable.grown es1.size)
    have q4 := relayAll_led t1 es1 (SetTable.grown es1.size)
    generalize relayAll t1 es1 (SetTable.grown es1.size) = Z at q1 q2 q3 q4 ⊢
    rcases Z with ⟨es2, t2, way⟩
    have size : es2.size = es1.size := by rw [← Array.length_toList, ← Array.length_toList]; exact q1.length_eq
    have few2 : es2.size < scanBound := by rw [size]; exact few
    refine wpAny_bind (quiet _ _ _ (wpAny_bind (wpAny_storeSet_of at1 rfl ?_ (fits_of_scanBound few2))))
    refine wpAny_pure (fin _ (sb.trans (Heap.SameBut.update _ a _)) ⟨_, es2, _, t2, store_at (es' := es2) (t' := t2) at1 rfl, ex, rfl, fun e he => g e (q1.mem_iff.mp he), (q1.map tk).trans pm, nd, few2, q2, q3, led.imp id fun z => ?_⟩)
    exact Eq.trans q4 z
  · rw [if_neg full]
    exact wpAny_pure (fin _ sb ⟨_, es1, _, t1, at1, ex, rfl, g, pm, nd, few, fit, ris, led⟩)
/-- z is added: the members are those of L, and z -/
theorem tx_add {z : Str} {k : Tok} {Q : Bool → Shared → Prop} (R : TxS w s.heap a L) (room : L.length + 1 < scanBound)
    (fin : ∀ h' b M, Heap.SameBut a s.heap h' → TxS w h' a M → M.length ≤ L.length + 1 → (∀ y, y ∈ M ↔ y ∈ L ∨ y = z) → Q b { s with heap := h' }) :
    wpAny (model P w) A (setAddHashed a (.str z k) ((PySem.strKind P w).hash z)) Q E s := by
  rcases R with ⟨o, es, ep, t, at_, ex, dt, g, pm, nd, few, fit, ris, led⟩
  have mine : (PySem.strKind P w).is z (.str z k) = true := strKind_is P w z k
  have scan : (Value.str z k).scannable = true := rfl
  have els : ElemsOf (PySem.strKind P w) es.toList := tx_elems g
  have size : es.size = L.length := by
    rw [← Array.length_toList, ← pm.length_eq, List.length_map]
  unfold setAddHashed setAddHashedIn
  refine wpAny_holding (wpAny_bind (wpAny_setState_of at_ dt fit ?_))
  dsimp only
  rw [byScan_of scan few els, if_pos rfl]
  unfold setAddByScan
  refine wpAny_bind (wpAny_bind (wpAny_rule (wpAny_bind (wpAny_setScan_of mine at_ dt fit els ?_))))
  cases find : List.findIdx? (fun e => (PySem.strKind P w).is z e.2) es.toList with
  | some j =>
    rcases List.findIdx?_eq_some_iff_getElem.mp find with ⟨hj, pj, _⟩
    have there : z ∈ L := pm.mem_iff.mp (List.mem_map.mpr ⟨es.toList[j], List.getElem_mem hj, (tx_is (P := P) (g _ (List.getElem_mem hj)) z).mp pj⟩)
    dsimp only
    refine wpAny_pure (wpAny_pure (fin s.heap _ L (Heap.SameBut.refl a s.heap) ⟨o, es, ep, t, at_, ex, dt, g, pm, nd, few, fit, ris, led⟩ (Nat.le_succ _) fun y => ⟨.inl, fun q => q.elim id fun e => e ▸ there⟩))
  | none =>
    have new : z ∉ L := fun q => by
      rcases List.mem_map.mp (pm.mem_iff.mpr q) with ⟨e, he, q2⟩
      have c := List.findIdx?_eq_none_iff.mp find e he
      rw [(tx_is (P := P) (g e he) z).mpr q2] at c
      cases c
    dsimp only
    have q1 := layNew_perm t es ((PySem.strKind P w).hash z) (.str z k)
    have q2 := layNew_fits t es ((PySem.strKind P w).hash z) (.str z k)
    have q3 := layNew_ris t es ((PySem.strKind P w).hash z) (.str z k) ris
    have q4 := layNew_led t es ((PySem.strKind P w).hash z) (.str z k)
    generalize layNew t es ((PySem.strKind P w).hash z) (.str z k) = Z at q1 q2 q3 q4 ⊢
    rcases Z with ⟨es1, t1, dummy, way⟩
    dsimp only at q1 q2 q3 q4 ⊢
    rw [Array.toList_push] at q1
    have pc : es1.toList.Perm (((PySem.strKind P w).hash z, Value.str z k) :: es.toList) := q1.trans (List.perm_append_singleton _ _)
    have pk : (es1.toList.map tk).Perm (z :: L) := (pc.map tk).trans (pm.cons z)
    have g1 : ∀ e ∈ es1.toList, TxE w e := fun e he => by
      rcases List.mem_cons.mp (pc.mem_iff.mp he) with y | y
      · rw [y]
        exact ⟨z, k, rfl, rfl⟩
      · exact g e y
    have few1 : es1.size < scanBound := by
      have e := pk.length_eq
      rw [List.length_map, Array.length_toList, List.length_cons] at e
      omega
    have led1 : w.params.followText "set-order" = true ∨ t1.led = true := led.imp id fun y => Eq.trans q4 y
    have out : ∀ h', Heap.SameBut a s.heap h' → TxS w h' a (z :: L) → Q true { s with heap := h' } := fun h' sb r => fin h' _ _ sb r (Nat.le_refl _) fun y => by
      rw [List.mem_cons]
      exact Or.comm
    have says : ∀ (b : Bool) (u : Shared) (R : Unit → Shared → Prop), R () u → wpAny (model P w) A (match b with | true => rule "set.scan.the-table-gave-way" | false => pure ()) R E u := fun b u R r => by
      cases b
      · exact wpAny_pure r
      · exact wpAny_rule r
    refine wpAny_bind (says _ _ _ ?_)
    split
    · refine wpAny_bind ?_
      rw [hashByValue_scannable 8 scan]
      refine wpAny_pure ?_
      refine tx_store says at_ ex dt g1 pk (List.nodup_cons.mpr ⟨new, nd⟩) few1 ?_ ?_ ?_ fun h' sb r => ?_
      · first | exact q2 | (split <;> first | exact q2 | exact SetTable.fits_plain_off q2)
      · first | exact q3 | (split <;> exact q3)
      · first | exact led1 | (split <;> exact led1)
      · exact wpAny_pure (out h' sb r)
    · refine wpAny_bind (wpAny_pure ?_)
      rw [if_pos rfl]
      refine tx_store says at_ ex dt g1 pk (List.nodup_cons.mpr ⟨new, nd⟩) few1 q2 q3 led1 fun h' sb r => ?_
      exact wpAny_pure (out h' sb r)
end
end IC
namespace IC
open PySem PySem.Spec PyProof.Rows L2
def new0 (w : World) : Obj := { cls := .type "set", dict := none, data := .set #[] 0 (.fresh 0 0 (!w.params.followText "set-order")) }
theorem tx_new {w : World} {h : Heap} {a : Addr} (e : h.get? a = some (new0 w)) : TxS w h a [] := by
  refine ⟨_, #[], 0, _, e, ⟨rfl, rfl, rfl⟩, rfl, fun e he => by simp at he, by simp, by simp, by decide, by rfl, List.Pairwise.nil, ?_⟩
  show _ ∨ (!w.params.followText "set-order") = true
  cases w.params.followText "set-order" <;> simp
theorem txs_at {us : List Value} {xs : List Str} (h : StrsAre us xs) : ∀ (i : Nat) (v : Value), us[i]? = some v → ∃ t, v = .str (xs.getD i Str.empty) t := by
  induction h with
  | nil => exact fun i v e => by simp at e
  | cons z t _ ih =>
    intro i v e
    cases i with
    | zero =>
      injection e with e
      exact ⟨t, e.symm⟩
    | succ j => exact ih j v e
section
variable {P : Program} {w : World} {A : Around}
/-- the loop that puts the texts xs into the set at S -/
theorem set_loop {I : Addr} {fp wr : List Addr} {G : Array GenState → Array GenState → Prop} {n : Nat} {Pv : Nat → Value → Prop} {St : Nat → Shared → Prop} {R : Result → Shared → Prop} (W : WalksS P w A.in1 I fp wr G n Pv St) (S : Addr) (out : S ∉ fp) (xs : List Str) (many : xs.length = n) (few : xs.length + 1 < scanBound)
    (val : ∀ i v, Pv i v → ∃ t, v = .str (xs.getD i Str.empty) t) (h0 : Heap) (new : ∀ b ∈ S :: wr, h0.get? b = none) : ∀ (k i : Nat) (s : Shared), n - i = k → i ≤ n → St i s →
      (∃ M, TxS w s.heap S M ∧ M.length ≤ i ∧ ∀ z, z ∈ M ↔ z ∈ xs.take i) → (∀ b o, h0.get? b = some o → s.heap.get? b = some o) →
      (∀ t M, Moved (S :: wr) G s t → TxS w t.heap S M → M.length ≤ n → (∀ z, z ∈ M ↔ z ∈ xs.take n) → (∀ b o, h0.get? b = some o → t.heap.get? b = some o) → R (.ok (.ret .none)) t) →
      codeAny (model P w) A (.builtin "set.update.loop" ⟨[.ref S, .ref I], []⟩) R s := by
  have nw : S ∉ wr := fun h => out (W.sub _ h)
  have up : ∀ b ∈ wr, b ∈ S :: wr := fun b hb => List.mem_cons_of_mem _ hb
  intro k
  induction k with
  | zero =>
    rintro i s hk hi st ⟨M, RM, len, mem⟩ old fin
    obtain rfl : i = n := by omega
    refine codeAny_builtin F.entry_set_update_loop ?_
    rw [Around.under_plainId F.plain_set_update_loop _]
    show wpAny _ A.in1 (pyNext (.ref I) >>= _) _ _ s
    refine wpAny_bind (W.done s _ _ st fun t mv => ?_)
    show wpAny _ A.in1 (ret Value.none) _ _ t
    exact wpAny_pure (fin t M (mv.mono up) (RM.keep fun o e => mv.heap S o nw e) len mem fun b o e => mv.heap b o (fun hb => by rw [new b (up b hb)] at e; cases e) (old b o e))
  | succ k ih =>
    rintro i s hk hi st ⟨M, RM, len, mem⟩ old fin
    have lt : i < n := by omega
    refine codeAny_builtin F.entry_set_update_loop ?_
    rw [Around.under_plainId F.plain_set_update_loop _]
    show wpAny _ A.in1 (pyNext (.ref I) >>= _) _ _ s
    refine wpAny_bind (W.item i s _ _ lt st fun v t hv st1 mv => ?_)
    rcases val i v hv with ⟨tok, rfl⟩
    have RM1 : TxS w t.heap S M := RM.keep fun o e => mv.heap S o nw e
    show wpAny _ A.in1 (holding [Value.str (xs.getD i Str.empty) tok] (setAdd S (.str (xs.getD i Str.empty) tok)) >>= _) _ _ t
    refine wpAny_bind (wpAny_holding ?_)
    unfold setAdd
    refine wpAny_holding (wpAny_bind ((PySem.strKind P w).pyHash (k := xs.getD i Str.empty) (strKind_is P w _ _) ?_))
    refine tx_add (s := { t with toks := t.toks + 1 }) RM1 (by omega) fun h' b M' sb R2 len2 mem2 => ?_
    have hx : xs[i]? = some (xs.getD i Str.empty) := by
      have hi2 : i < xs.length := by omega
      rw [List.getD_eq_getElem?_getD, List.getElem?_eq_getElem hi2]
      rfl
    refine wpAny_pure ⟨plainId_quiet F.plain_set_update_loop _, ih (i + 1) _ (by omega) lt (W.frame _ t _ _ st1 (Nat.le_succ _) fun b hb o e => ?_) ⟨M', R2, by omega, fun z => ?_⟩ (fun b o e => ?_) fun t2 M2 mv2 R3 l3 m3 old3 => ?_⟩
    · rw [sb.2 b fun e1 => out (e1 ▸ hb)]
      exact e
    · rw [mem2 z, mem z, List.take_add_one, hx]
      simp
    · have ne : b ≠ S := fun e1 => by
        rw [e1, new S List.mem_cons_self] at e
        cases e
      rw [sb.2 b ne]
      exact mv.heap b o (fun hb => by rw [new b (up b hb)] at e; cases e) (old b o e)
    · refine fin t2 M2 (Moved.trans W.gtrans ((mv.mono up).then_heap (Nat.le_succ _) fun b o hb e => ?_) mv2) R3 l3 m3 old3
      rw [sb.2 b fun e1 => hb (by rw [e1]; exact List.mem_cons_self)]
      exact e
end
section
variable {P : Program} {w : World} {A : Around} {E : Value → Shared → Prop} {s : Shared}
set_option maxHeartbeats 8000000 in
theorem call_set_lst {l : Addr} {items : Array Value} {xs : List Str} {Q : Value → Shared → Prop} (calm : A.handled = none) (isl : s.heap.IsList l items) (are : StrsAre items.toList xs) (few : xs.length + 1 < scanBound)
    (fin : ∀ (h' : Heap) (tk : Nat) (M : List Str), TxS w h' s.heap.objs.size M → M.length ≤ xs.length → (∀ z, z ∈ M ↔ z ∈ xs) → (∀ b o, s.heap.get? b = some o → h'.get? b = some o) → Q (.ref s.heap.objs.size) { s with heap := h', toks := tk }) :
    wpAny (model P w) A (call (.type "set") [.ref l]) Q E s := by
  have many : xs.length = items.size := by rw [← StrsAre.len_eq are, Array.length_toList]
  rcases F.called_set.mro with ⟨_, _, mro⟩
  have made := F.called_set.made
  have sub := F.called_set.sub
  refine wpAny_call (codeAny_of_tree ?_)
  show wpAny _ _ (callAny (.type "set") _) _ _ _
  refine wpAny_pure ⟨Code.quiet_builtin _ (by decide +kernel), codeAny_builtin F.entry_type_call ?_⟩
  rw [Around.under_plain (weight_type_call_type "set" [.ref l] []) rfl]
  have noT := F.called_set.notType
  have can := F.called_set.canCreate
  have one := F.typeCall_set_1 (.ref l)
  repeat (any_goals (first | assumption | wp_step))
  refine codeAny_mono (code_set_led1 (.ref l) (E := E) (Q₁ := fun v t => v = .ref s.heap.objs.size ∧ t = { s with heap := s.heap.push (new0 w) }) ⟨rfl, rfl⟩) fun r t made1 => ?_
  cases r with
  | error e => exact made1
  | ok fl =>
    cases fl with
    | next => exact made1.elim
    | brk => exact made1.elim
    | cont => exact made1.elim
    | ret v =>
    rcases made1 with ⟨rfl, rfl⟩
    have at_ : (s.heap.push (new0 w)).get? s.heap.objs.size = some (new0 w) := Heap.get?_push_size _ rfl
    have isT : Shared.TypeIs { s with heap := s.heap.push (new0 w) } (.ref s.heap.objs.size) "set" := ⟨_, at_, rfl⟩
    have look := F.called_set.init.lookup
    have bind := F.called_set.init.bind (.ref s.heap.objs.size)
    repeat (any_goals (first | assumption | wp_step))
    refine codeAny_mono (codeAny_call_builtin (R := wants (fun r t => r = .none ∧ ∃ h' tk M, t = { s with heap := h', toks := tk } ∧ TxS w h' s.heap.objs.size M ∧ M.length ≤ xs.length ∧ (∀ z, z ∈ M ↔ z ∈ xs) ∧ ∀ b o, s.heap.get? b = some o → h'.get? b = some o) E)
      F.called_set.init.plain F.entry_set_init (check_set_init_1 isT ?_)) fun r2 t2 filled => ?_
    · rcases isl with ⟨⟨kl, dl, xl, sl⟩, atl, rfl, nl, dt⟩
      have dt : xl = .seq items nl := dt
      subst dt
      have atl1 : (s.heap.push (new0 w)).get? l = some _ := Heap.get?_push_of_some _ atl
      have no1 := F.sub_list_set
      have no2 := F.sub_list_frozenset
      have no3 : (Value.type "list" == Value.type "dict") = false := by decide
      have isl1 : (s.heap.push (new0 w)).IsList l items := ⟨_, atl1, rfl, nl, rfl⟩
      unfold Builtin.«set.__init__» noKeywords Builtin.Frozenset.updateFrom
      generalize it : pyIter = IT
      wp_walk
      subst it
      refine wpAny_pyIter_list isl1 (wpAny_bind (wpAny_runValue ?_))
      have size : (s.heap.push (new0 w)).objs.size = s.heap.objs.size + 1 := Heap.size_push ..
      have ltl : l < s.heap.objs.size := Heap.lt_size atl
      have calm3 : A.in1.in1.in1.handled = none := calm
      have neI : l ≠ (s.heap.push (new0 w)).objs.size := fun e => by
        rw [e, size] at ltl
        exact absurd ltl (Nat.not_lt.mpr (Nat.le_succ _))
      refine set_loop ((Walks.list calm3 _ l neI items).toS) s.heap.objs.size ?_ xs many few (fun i v hv => txs_at are i v (by rw [Array.getElem?_toList]; exact hv)) s.heap ?_ (items.size - 0) 0 _ (by omega) (Nat.zero_le _)
        ⟨⟨_, Heap.get?_push_size _ rfl, rfl, rfl⟩, isl1.push _⟩ ⟨[], tx_new (Heap.get?_push_of_some _ at_), Nat.le_refl _, fun z => by simp⟩ (fun b o e => Heap.get?_push_of_some _ (Heap.get?_push_of_some _ e)) fun t3 M mv R len mem old => ?_
      · rw [size]
        simp only [List.mem_cons, List.not_mem_nil, or_false, not_or]
        exact ⟨Nat.ne_of_lt (Nat.lt_succ_self _), fun e => Nat.lt_irrefl _ (e ▸ ltl)⟩
      · intro b hb
        rw [size] at hb
        have lt : s.heap.objs.size ≤ b := by
          simp only [List.mem_cons, List.not_mem_nil, or_false] at hb
          rcases hb with e | e
          · rw [e]
            exact Nat.le_refl _
          · rw [e]
            exact Nat.le_succ _
        cases e : s.heap.get? b with
        | none => rfl
        | some o => exact absurd (Heap.lt_size e) (Nat.not_lt.mpr lt)
      · rcases t3 with ⟨h3, g3, d3, k3, o3⟩
        have e1 : g3 = s.gens := mv.gens
        have e2 : d3 = s.drawn := mv.drawn
        have e3 : o3 = s.os := mv.os
        subst e1
        subst e2
        subst e3
        show wpAny _ _ _ _ _ _
        refine wpAny_pure ?_
        show wpAny _ _ (ret Value.none) _ _ _
        rw [← many] at len
        refine wpAny_pure ⟨rfl, h3, k3, M, rfl, R, len, fun z => ?_, old⟩
        rw [mem z, ← many, List.take_length]
    · cases r2 with
      | error e => exact filled
      | ok fl2 =>
        cases fl2 with
        | next => exact filled.elim
        | brk => exact filled.elim
        | cont => exact filled.elim
        | ret v =>
        rcases filled with ⟨rfl, h', tk, M, rfl, R, len, mem, old⟩
        repeat (any_goals (first | assumption | wp_step))
        exact fin h' tk M R len mem old
set_option maxHeartbeats 8000000 in
theorem call_set_tup {l : Addr} {items : Array Value} {xs : List Str} {Q : Value → Shared → Prop} (calm : A.handled = none) (isl : s.heap.IsTuple l items) (are : StrsAre items.toList xs) (few : xs.length + 1 < scanBound)
    (fin : ∀ (h' : Heap) (tk : Nat) (M : List Str), TxS w h' s.heap.objs.size M → M.length ≤ xs.length → (∀ z, z ∈ M ↔ z ∈ xs) → (∀ b o, s.heap.get? b = some o → h'.get? b = some o) → Q (.ref s.heap.objs.size) { s with heap := h', toks := tk }) :
    wpAny (model P w) A (call (.type "set") [.ref l]) Q E s := by
  have many : xs.length = items.size := by rw [← StrsAre.len_eq are, Array.length_toList]
  rcases F.called_set.mro with ⟨_, _, mro⟩
  have made := F.called_set.made
  have sub := F.called_set.sub
  refine wpAny_call (codeAny_of_tree ?_)
  show wpAny _ _ (callAny (.type "set") _) _ _ _
  refine wpAny_pure ⟨Code.quiet_builtin _ (by decide +kernel), codeAny_builtin F.entry_type_call ?_⟩
  rw [Around.under_plain (weight_type_call_type "set" [.ref l] []) rfl]
  have noT := F.called_set.notType
  have can := F.called_set.canCreate
  have one := F.typeCall_set_1 (.ref l)
  repeat (any_goals (first | assumption | wp_step))
  refine codeAny_mono (code_set_led1 (.ref l) (E := E) (Q₁ := fun v t => v = .ref s.heap.objs.size ∧ t = { s with heap := s.heap.push (new0 w) }) ⟨rfl, rfl⟩) fun r t made1 => ?_
  cases r with
  | error e => exact made1
  | ok fl =>
    cases fl with
    | next => exact made1.elim
    | brk => exact made1.elim
    | cont => exact made1.elim
    | ret v =>
    rcases made1 with ⟨rfl, rfl⟩
    have at_ : (s.heap.push (new0 w)).get? s.heap.objs.size = some (new0 w) := Heap.get?_push_size _ rfl
    have isT : Shared.TypeIs { s with heap := s.heap.push (new0 w) } (.ref s.heap.objs.size) "set" := ⟨_, at_, rfl⟩
    have look := F.called_set.init.lookup
    have bind := F.called_set.init.bind (.ref s.heap.objs.size)
    repeat (any_goals (first | assumption | wp_step))
    refine codeAny_mono (codeAny_call_builtin (R := wants (fun r t => r = .none ∧ ∃ h' tk M, t = { s with heap := h', toks := tk } ∧ TxS w h' s.heap.objs.size M ∧ M.length ≤ xs.length ∧ (∀ z, z ∈ M ↔ z ∈ xs) ∧ ∀ b o, s.heap.get? b = some o → h'.get? b = some o) E)
      F.called_set.init.plain F.entry_set_init (check_set_init_1 isT ?_)) fun r2 t2 filled => ?_
    · rcases isl with ⟨⟨kl, dl, xl, sl⟩, atl, rfl, nl, dt⟩
      have dt : xl = .seq items nl := dt
      subst dt
      have atl1 : (s.heap.push (new0 w)).get? l = some _ := Heap.get?_push_of_some _ atl
      have no1 := F.sub_tuple_set
      have no2 := F.sub_tuple_frozenset
      have no3 : (Value.type "tuple" == Value.type "dict") = false := by decide
      have isl1 : (s.heap.push (new0 w)).IsTuple l items := ⟨_, atl1, rfl, nl, rfl⟩
      unfold Builtin.«set.__init__» noKeywords Builtin.Frozenset.updateFrom
      generalize it : pyIter = IT
      wp_walk
      subst it
      refine wpAny_pyIter_tuple isl1 (wpAny_bind (wpAny_runValue ?_))
      have size : (s.heap.push (new0 w)).objs.size = s.heap.objs.size + 1 := Heap.size_push ..
      have ltl : l < s.heap.objs.size := Heap.lt_size atl
      have calm3 : A.in1.in1.in1.handled = none := calm
      have neI : l ≠ (s.heap.push (new0 w)).objs.size := fun e => by
        rw [e, size] at ltl
        exact absurd ltl (Nat.not_lt.mpr (Nat.le_succ _))
      refine set_loop ((Walks.tuple calm3 _ l neI items).toS) s.heap.objs.size ?_ xs many few (fun i v hv => txs_at are i v (by rw [Array.getElem?_toList]; exact hv)) s.heap ?_ (items.size - 0) 0 _ (by omega) (Nat.zero_le _)
        ⟨⟨_, Heap.get?_push_size _ rfl, rfl, rfl⟩, isl1.push _⟩ ⟨[], tx_new (Heap.get?_push_of_some _ at_), Nat.le_refl _, fun z => by simp⟩ (fun b o e => Heap.get?_push_of_some _ (Heap.get?_push_of_some _ e)) fun t3 M mv R len mem old => ?_
      · rw [size]
        simp only [List.mem_cons, List.not_mem_nil, or_false, not_or]
        exact ⟨Nat.ne_of_lt (Nat.lt_succ_self _), fun e => Nat.lt_irrefl _ (e ▸ ltl)⟩
      · intro b hb
        rw [size] at hb
        have lt : s.heap.objs.size ≤ b := by
          simp only [List.mem_cons, List.not_mem_nil, or_false] at hb
          rcases hb with e | e
          · rw [e]
            exact Nat.le_refl _
          · rw [e]
            exact Nat.le_succ _
        cases e : s.heap.get? b with
        | none => rfl
        | some o => exact absurd (Heap.lt_size e) (Nat.not_lt.mpr lt)
      · rcases t3 with ⟨h3, g3, d3, k3, o3⟩
        have e1 : g3 = s.gens := mv.gens
        have e2 : d3 = s.drawn := mv.drawn
        have e3 : o3 = s.os := mv.os
        subst e1
        subst e2
        subst e3
        show wpAny _ _ _ _ _ _
        refine wpAny_pure ?_
        show wpAny _ _ (ret Value.none) _ _ _
        rw [← many] at len
        refine wpAny_pure ⟨rfl, h3, k3, M, rfl, R, len, fun z => ?_, old⟩
        rw [mem z, ← many, List.take_length]
    · cases r2 with
      | error e => exact filled
      | ok fl2 =>
        cases fl2 with
        | next => exact filled.elim
        | brk => exact filled.elim
        | cont => exact filled.elim
        | ret v =>
        rcases filled with ⟨rfl, h', tk, M, rfl, R, len, mem, old⟩
        repeat (any_goals (first | assumption | wp_step))
        exact fin h' tk M R len mem old
end
end IC
namespace IC
open PySem PySem.Spec PyProof.Rows L2
def TxO (w : World) (a : Addr) (L : List Str) : HO := .ext fun h => TxS w h a L
section
variable {X : Cx}
theorem txO_ok {P : Program} {w : World} {H : Hp} {h : Heap} {a : Addr} {L : List Str} (R : TxS w h a L) : ObjOk P w H h a (TxO w a L) := by
  have R2 := R
  rcases R2 with ⟨o, _, _, _, e, _⟩
  exact ⟨R, ⟨o, e⟩, fun h1 h2 p k => TxS.keep p k⟩
/-- set(xs), xs a list or a tuple of texts -/
def rSetTx (K : PySem.W.Frag) (w : World) : List V → Hp → VK → Prop := fun vs H Q => ∃ (a : Addr) (xs : List Str), vs = [.ref a] ∧ (SqL K H a (xs.map V.str) ∨ SqT K H a (xs.map V.str)) ∧ xs.length ≤ 4000 ∧
  ∀ (p : Addr) (M : List Str), H p = none → M.length ≤ xs.length → (∀ z, z ∈ M ↔ z ∈ xs) → M.Nodup → Q (.ref p) (upd H p (TxO w p M))
theorem cr_setTx (calm : X.calm = true) : CallR X (.type "set") (rSetTx X.K X.w) := by
  rintro pins s σ H vs us Q I rel ⟨a, xs, rfl, sq, few, q⟩
  rcases vals1 rel with ⟨u, rfl, ru⟩
  cases ru
  have few2 : xs.length + 1 < scanBound := by
    show xs.length + 1 < 4096
    omega
  have fin : ∀ (h' : Heap) (tk : Nat) (M : List Str), TxS X.w h' s.heap.objs.size M → M.length ≤ xs.length → (∀ z, z ∈ M ↔ z ∈ xs) → (∀ b o, s.heap.get? b = some o → h'.get? b = some o) → EP X pins σ Q (.ref s.heap.objs.size) { s with heap := h', toks := tk } := fun h' tk M R len mem old => by
    have nd : M.Nodup := by
      rcases R with ⟨_, _, _, _, _, _, _, _, _, nd, _⟩
      exact nd
    exact ⟨.ref s.heap.objs.size, _, I.laid (t' := tk) old (Nat.le_refl _) (txO_ok R), rfl, q _ M (I.hok.fresh (Nat.le_refl _)) len mem nd⟩
  rcases sq with sq | sq
  · rcases I.list sq with ⟨its, rv, pl, _⟩
    exact call_set_lst (I.ok.hd calm) pl.isList (by simpa using rv.strs) few2 fin
  · rcases I.tuple sq with ⟨its, rv, pl, _⟩
    exact call_set_tup (I.ok.hd calm) pl (by simpa using rv.strs) few2 fin
/-- sorted(a set of texts) -/
def rSortTx (w : World) : List V → Hp → VK → Prop := fun vs H Q => ∃ (a : Addr) (M : List Str), vs = [.ref a] ∧ H a = some (TxO w a M) ∧ ∀ (ys : List Str) (p : Addr), ys.Perm M → sortedS ys = true → H p = none → Q (.ref p) (upd H p (.lst (ys.map V.str)))
theorem txs_of {w : World} : ∀ {vs : List Value} {es : List (Int × Value)}, (∀ e ∈ es, TxE w e) → vs = es.map (·.2) → StrsAre vs (es.map tk)
  | _, [], _, e => by
    subst e
    exact .nil
  | _, p :: es, g, e => by
    subst e
    rcases g p List.mem_cons_self with ⟨z, k, e1, _⟩
    have r := txs_of (vs := es.map (·.2)) (fun x hx => g x (List.mem_cons_of_mem _ hx)) rfl
    have e2 : tk p = z := by
      unfold tk
      rw [e1]
    rw [List.map_cons, List.map_cons, e1, e2]
    exact .cons z k r
theorem perm_lift {α β : Type} {f : α → β} : ∀ {ys xs : List β} (_ : ys.Perm xs) {l : List α}, xs = l.map f → ∃ l' : List α, l'.Perm l ∧ ys = l'.map f := by
  intro ys xs p
  induction p with
  | nil =>
    intro l e
    have e : l = [] := List.map_eq_nil_iff.mp e.symm
    subst e
    exact ⟨[], .nil, rfl⟩
  | cons x _ ih =>
    intro l e
    cases l with
    | nil => cases e
    | cons y l =>
      injection e with e1 e2
      rcases ih e2 with ⟨l', p', e'⟩
      exact ⟨y :: l', p'.cons y, by rw [List.map_cons, ← e', e1]⟩
  | swap x y r =>
    intro l e
    match l, e with
    | u :: v :: l, e =>
      injection e with e1 e2
      injection e2 with e2 e3
      exact ⟨v :: u :: l, .swap .., by rw [List.map_cons, List.map_cons, e1, e2, e3]⟩
  | trans _ _ ih1 ih2 =>
    intro l e
    rcases ih2 e with ⟨l2, p2, e2⟩
    rcases ih1 e2 with ⟨l1, p1, e1⟩
    exact ⟨l1, p1.trans p2, e1⟩
theorem cr_sortTx (calm : X.calm = true) : CallR X (.builtin "sorted") (rSortTx X.w) := by
  rintro pins s σ H vs us Q I rel ⟨a, M, rfl, at_, q⟩
  have R : TxS X.w s.heap a M := (I.hok a _ at_).1
  rcases vals1 rel with ⟨u, rfl, ru⟩
  cases ru
  rcases R with ⟨o, es, ep, t, ho, ex, dt, g, pm, nd, few, fit, ris, led⟩
  refine Calls.call_function_entry kind_sorted plain_sorted entry_sorted (args_sorted1 _) ?_
  unfold Builtin.«sorted»
  refine wpAny_bind (m := checkCount "sorted" 1 1 _) (wpAny_pure ?_)
  refine wpAny_bind (collect_set (A := X.A.in1) (I.ok.hd calm) ⟨o, ho, ex.1, dt⟩ fit few ris led fun t1 out old grow gens os pm2 => ?_)
  rcases perm_lift pm2 rfl with ⟨es2, p2, e2⟩
  have are : StrsAre out (es2.map tk) := txs_of (fun e he => g e (p2.mem_iff.mp he)) e2
  have pM : (es2.map tk).Perm M := (p2.map tk).trans pm
  have len : out.length ≤ sizeLine := by
    have e := p2.length_eq
    rw [e2, List.length_map, e, Array.length_toList, sizeLine_eq]
    have : es.size < 4096 := few
    omega
  refine wpAny_bind (wpAny_newList ?_ len)
  have at1 : (t1.heap.push (seqObj "list" out.toArray 0)).get? t1.heap.objs.size = some (seqObj "list" out.toArray 0) := Heap.get?_push_size _ rfl
  refine wpAny_bind (wpAny_holding (wpAny_call_entry slot_list_sort ⟨_, at1, rfl⟩ entry_list_sort (list_sort_treeKAny strKind_oneLt at1 are.keysOf (fun v1 v2 rest e => keyKind_strs (by rw [← e]; exact are)) len fun st hp hs => ⟨_, rfl, ?_⟩) (args_list_sort _)))
  rcases sorted_out_str are hp hs with ⟨ys, g1, g2, g3⟩
  rcases sortedHeap_at (vs := out) (out := (arrOf st).map (·.2)) at1 with ⟨c, hc⟩
  have lenY : (ys.map V.str).length ≤ sizeLine := by
    rw [List.length_map, g2.length_eq, ← StrsAre.length are]
    exact len
  have keep : ∀ b u, s.heap.get? b = some u → (sortedHeap (t1.heap.push (seqObj "list" out.toArray 0)) t1.heap.objs.size out ((arrOf st).map (·.2))).get? b = some u := fun b u e => by
    have e1 := old b u e
    have lt := Heap.lt_size e1
    rw [sortedHeap_old (Nat.ne_of_lt lt) (by rw [size_push']; exact Nat.lt_succ_of_lt lt)]
    exact Heap.get?_push_of_some _ e1
  have J : Inv X pins σ (upd H t1.heap.objs.size (.lst (ys.map V.str))) { s with heap := sortedHeap (t1.heap.push (seqObj "list" out.toArray 0)) t1.heap.objs.size out ((arrOf st).map (·.2)), gens := t1.gens, drawn := t1.drawn, toks := t1.toks } :=
    I.call (ch := []) (Un.laid keep grow (I.hok.fresh grow)) (I.hok.laid keep grow ⟨lenY, ((arrOf st).map (·.2)).toList, c, vals_of_strs g1, by rw [Array.toArray_toList]; exact hc⟩) (by rw [gens]; exact I.bare) (fun _ z => nomatch z)
  refine wpAny_pure ⟨_, rfl, ?_⟩
  rcases t1 with ⟨h1, g1', d1, k1, o1⟩
  have os : o1 = s.os := os
  subst os
  exact ⟨.ref h1.objs.size, _, J, rfl, q ys _ (g2.trans pM) g3 (I.hok.fresh grow)⟩
/-- sorted(a list of texts), however many -/
theorem cr_sortLT : CallR X (.builtin "sorted") (fun vs H Q => ∃ (a : Addr) (xs : List Str), vs = [.ref a] ∧ SqL X.K H a (xs.map V.str) ∧ ∀ (ys : List Str) (p : Addr), ys.Perm xs → sortedS ys = true → H p = none → Q (.ref p) (upd H p (.lst (ys.map V.str)))) := by
  rintro pins s σ H vs us Q I rel ⟨a, xs, rfl, sq, q⟩
  rcases vals1 rel with ⟨u, rfl, ru⟩
  cases ru
  rcases I.list sq with ⟨its, rv, pl, small⟩
  have e0 := rv.length
  rw [List.length_map] at e0
  rw [List.length_map] at small
  refine sorted_strsAny pl.isList rv.strs (by rw [← e0]; exact small) fun out ys h1 h2 h3 => ?_
  rcases sortedAll_at s.heap its out with ⟨ep, he⟩
  have len : (ys.map V.str).length ≤ sizeLine := by
    rw [List.length_map, h2.length_eq]
    exact small
  exact ⟨.ref _, upd H (s.heap.objs.size + 1) (.lst (ys.map V.str)), I.laid (t' := s.toks) (fun _ _ => sortedAll_old) (Nat.le_succ _) ⟨len, out.toList, ep, vals_of_strs h1, he⟩, rfl, q ys _ h2 h3 (I.hok.fresh (Nat.le_succ _))⟩
end
end IC
namespace IC
open PySem L2 TL
/-! ### a static method called by its class; list(text) -/
/-- C.m is a static method: its record at p, its def at g -/
structure SMet (K : PySem.W.Frag) (C : Addr) (mc : Value) (m : Str) (p g : Addr) : Prop where
  rd : ClX.CRead K C mc
  fnd : PySem.W.findCls K (.ref C) mc m = some (.get (.builtin "staticmethod.__get__") (.ref p) .none (.ref C))
  rec_ : ∃ rest, PySem.W.recIn K p "staticmethod" = some (.ref g :: rest)
  kp : PySem.W.keepIn K (.ref g) = true
def tSM (C : Addr) (sp : Sp) (ta : TE) (t : TA) : TE := fun σ H Q => ta σ H fun x H1 => x = .ref C ∧ t σ H1 fun vs H2 => sp vs H2 Q E0
theorem pe_smeth {X : Cx} {k j : Nat} {C p g : Addr} {mc : Value} {fd : FuncData} {ps : List Str} {sp : Sp} {o e : Expr} {es : List Expr} {m : Str} {pos apos : Pos} {ta : TE} {t : TA} {pl : Sem Bool}
    (ho : PE X o ta) (S : SMet X.K C mc m p g) (F : FnOk X.prog X.w X.K X.mg X.base CX0 k g fd ps sp) (hb : Binds X.K fd ps []) (hr : Room j X.A) (hk : k ≤ j) (ha : PA X (e :: es) t)
    (he : starEach (e :: es) X.env = (false, eval e X.env) :: starEach es X.env := by rfl) (hpl : (backTo pos (starEach es X.env)).any (·.1) = false := by rfl)
    (ht : eval (.Call (.Attribute o m apos) (e :: es) [] pos) X.env = (do
      let ov ← eval o X.env; standAt apos.atName
      let (f, first) ← holding [ov] (getMethod ov m pl); callWith pos f first (backTo pos (starEach (e :: es) X.env)) (backToKw pos (keywordEach [] X.env))) := by rfl) :
    PE X (.Call (.Attribute o m apos) (e :: es) [] pos) (tSM C sp ta t) := by
  refine ⟨fun pins s σ H Q I h => PySem.W.methodCall_KW (pl := pl) (thn (ho.run pins s σ H _ I h) fun u s1 ⟨x, H1, I1, rx, ex, q⟩ => ?_) ht⟩
  subst ex
  obtain rfl : u = Value.ref C := rx
  obtain ⟨rest, hrc⟩ := S.rec_
  refine PySem.W.method_cls I1.kIn S.rd.ga (PySem.W.cls_bind I1.kIn S.rd.rd S.fnd ?_)
  refine wpAny_call (PySem.W.sm_get (s := { s1 with toks := s1.toks + 1 }) I1.kIn hrc (PySem.W.handed_on rfl ?_))
  have I2 : Inv X pins σ H1 { s1 with toks := s1.toks + 1 } := I1.tok _
  exact PySem.W.callWith_K (h₀ := X.base) I2.ok.mod.kin S.kp (thn (ha.run pos pins _ σ H1 _ I2 q) fun us s3 ⟨vs, H3, I3, rv, q3⟩ => ⟨I3.kIn, run_fn F (hr.mono hk) hb .nil pass0 I3 rv (by rw [List.append_nil]; exact q3)⟩) he hpl
theorem vals_some : ∀ (its : List Value), (∀ u ∈ its, ∃ y, RelV y u) → ∃ ys, Vals ys its
  | [], _ => ⟨[], .nil⟩
  | u :: r, h => by
    obtain ⟨y, hy⟩ := h u List.mem_cons_self
    obtain ⟨ys, hys⟩ := vals_some r fun v hv => h v (List.mem_cons_of_mem _ hv)
    exact ⟨y :: ys, .cons hy hys⟩
/-- list(text): a new list -/
theorem call_list_txt {X : Cx} (hc : X.A.handled = none) : CallR X (.type "list") (fun xs H Q => ∃ z : Str, xs = [.str z] ∧ z.length ≤ sizeLine ∧ ∀ l ys, H l = none → Q (.ref l) (upd H l (.lst ys))) := by
  intro pins s σ H xs us Q I r h
  obtain ⟨z, rfl, hz, q⟩ := h
  obtain ⟨u, rfl, rx⟩ := vals1 r
  obtain ⟨t, rfl⟩ := rx
  refine call_list_str hc z t (fun h' tk acc c' kp e it => ?_) hz
  obtain ⟨ys, hys⟩ := vals_some acc.toList fun u hu => by
    obtain ⟨j, hj, e1⟩ := List.getElem_of_mem hu
    obtain ⟨c, w, _, rfl⟩ := it.2 j u (by
      rw [← e1]
      simp)
    exact ⟨.str ⟨#[c]⟩, w, rfl⟩
  have hl := hys.length
  refine ⟨.ref s.heap.objs.size, _, I.laid (t' := tk) kp (Nat.le_refl _) (show ObjOk X.prog X.w _ h' _ (.lst ys) from ⟨?_, acc.toList, c', hys, by simpa using e⟩), rfl, q _ ys (I.hok.fresh (Nat.le_refl _))⟩
  have h1 : acc.size = z.cps.size := it.1
  have h2 : acc.toList.length = acc.size := Array.length_toList
  rw [hl, h2, h1]
  exact hz
end IC
namespace IC
open PySem L2 TL
/-! ### the modes -/
def modesS : List Str := ["join", "inner", "apart", "must", "either", "never", "outside", "alone"]
def modesV : List V := modesS.map V.str
theorem mode_at (d : Int) (h0 : 0 ≤ d) (h1 : d < 8) : ∃ z : Str, atI modesV d = some (.str z) ∧ z ∈ modesS ∧ 4 ≤ (tl z).length ∧ (tl z).length ≤ 7 := by
  obtain ⟨j, rfl⟩ : ∃ j : Nat, d = j := ⟨d.toNat, by omega⟩
  have hj : j < 8 := by omega
  have all : ∀ k : Fin 8, ∃ z : Str, modesS[k.val]? = some z ∧ 4 ≤ (tl z).length ∧ (tl z).length ≤ 7 := by
    intro k
    match k with
    | 0 => exact ⟨"join", rfl, by decide +kernel, by decide +kernel⟩
    | 1 => exact ⟨"inner", rfl, by decide +kernel, by decide +kernel⟩
    | 2 => exact ⟨"apart", rfl, by decide +kernel, by decide +kernel⟩
    | 3 => exact ⟨"must", rfl, by decide +kernel, by decide +kernel⟩
    | 4 => exact ⟨"either", rfl, by decide +kernel, by decide +kernel⟩
    | 5 => exact ⟨"never", rfl, by decide +kernel, by decide +kernel⟩
    | 6 => exact ⟨"outside", rfl, by decide +kernel, by decide +kernel⟩
    | 7 => exact ⟨"alone", rfl, by decide +kernel, by decide +kernel⟩
  obtain ⟨z, h2, h3, h4⟩ := all ⟨j, hj⟩
  refine ⟨z, atI_nat ?_, List.mem_of_getElem? h2, h3, h4⟩
  unfold modesV
  rw [List.getElem?_map, h2]
  rfl
theorem modes_flat : modesV.all flatV = true := by decide +kernel
/-- what stands of the class Mode in the text -/
structure ModeTxt (K : PySem.W.Frag) (mg : Str → Option Value) (C p g t : Addr) (mc : Value) : Prop where
  mo : mg "Mode" = some (.ref C)
  rd : ClX.CRead K C mc
  all : ClX.CVal K C mc "ALL" (.ref t) (.ref t)
  tup : ∃ (o : Obj) (its : Array Value) (n : Nat), K.lookup t = some o ∧ o.cls = .type "tuple" ∧ o.data = .seq its n ∧ its.size ≤ sizeLine ∧ Vals modesV its.toList
  con : ∀ nm z : Str, (nm, z) ∈ ([("JOIN", "join"), ("INNER", "inner"), ("APART", "apart"), ("MUST", "must"), ("EITHER", "either"), ("NEVER", "never"), ("OUTSIDE", "outside"), ("ALONE", "alone")] : List (Str × Str)) → ∃ u, ClX.CVal K C mc nm (.str z) u
  sm : SMet K C mc "is_mode" p g
theorem ModeTxt.seq {K : PySem.W.Frag} {mg : Str → Option Value} {C p g t : Addr} {mc : Value} (M : ModeTxt K mg C p g t mc) (H : Hp) : SqT K H t modesV := .inr M.tup
/-- Mode.is_mode(thing), any value -/
def spIsMode (K : PySem.W.Frag) : Sp := fun vs H Q _ => ∃ v : V, vs = [v] ∧ ((∃ z : Str, v = .str z ∧ Q (.bl (inV v modesV)) H) ∨ (Oth K H v ∧ Q (.bl false) H))
end IC
namespace IC
open PySem L2 TL PyProof.Rows
/-! ### try: several except clauses, each with a name for the error or without -/
abbrev Cl := Value × Option Nat × (Addr → Value → Option Addr → TS)
/-- the slot i is emptied behind the suite -/
def emptied (i : Nat) (D : Ends) : Ends := { nx := fun τ G => D.nx (τ.set i none) G, rt := D.rt, bk := fun τ G => D.bk (τ.set i none) G, ct := fun τ G => D.ct (τ.set i none) G }
def wCl (K : PySem.W.Frag) (out : WX) (D : Ends) : List Cl → WX
  | [] => out
  | (c, some i, ts) :: r => fun cls d σ H => ∃ b, PySem.W.exmOne K cls c = some b ∧ (b = true → ∀ a, H a = none → ts a cls d (emptied i D) (σ.set i (some (.ref a))) H) ∧ (b = false → wCl K out D r cls d σ H)
  | (c, none, ts) :: r => fun cls d σ H => ∃ b, PySem.W.exmOne K cls c = some b ∧ (b = true → ∀ a, H a = none → ts a cls d D σ H) ∧ (b = false → wCl K out D r cls d σ H)
inductive ClOk (X : Cx) : List ExceptHandler → List Cl → Prop
  | nil : ClOk X [] []
  | nm {x n : Str} {c : Value} {i : Nat} {ts : Addr → Value → Option Addr → TS} {b0 : Stmt} {st : List Stmt} {np pos : Pos} {hs : List ExceptHandler} {l : List Cl} (hi : X.N[i]? = some n) (hl : X.env.kindOf n = some .local) (hc : Names X x c)
      (su : ∀ (a : Addr) (oe : Obj) (cls : Value) (d : Option Addr) (pn : List (Addr × Obj)), Zc cls d oe → (∃ vs, oe.data = .fields vs) → PSs (X.suite a ((a, oe) :: pn)) (b0 :: st) (ts a cls d)) (r : ClOk X hs l) :
      ClOk X (.ExceptHandler (some (.Name x np)) (some n) (b0 :: st) pos :: hs) ((c, some i, ts) :: l)
  | no {x : Str} {c : Value} {ts : Addr → Value → Option Addr → TS} {b0 : Stmt} {st : List Stmt} {np pos : Pos} {hs : List ExceptHandler} {l : List Cl} (hc : Names X x c)
      (su : ∀ (a : Addr) (oe : Obj) (cls : Value) (d : Option Addr) (pn : List (Addr × Obj)), Zc cls d oe → (∃ vs, oe.data = .fields vs) → PSs (X.suite a ((a, oe) :: pn)) (b0 :: st) (ts a cls d)) (r : ClOk X hs l) :
      ClOk X (.ExceptHandler (some (.Name x np)) none (b0 :: st) pos :: hs) ((c, none, ts) :: l)
/-- the name of a clause is asked: its class -/
theorem clause_name {X : Cx} {Y : Cx} {x : Str} {c : Value} {np : Pos} {pins : List (Addr × Obj)} {σ : L2.St} {H : Hp} {s : Shared} {Q E : Value → Shared → Prop} (hc : Names X x c) (J : Inv Y pins σ H s) (e1 : Y.env = X.env) (e2 : Y.mg = X.mg) (q : Q c s) :
    wpAny (model Y.prog Y.w) Y.A (eval (.Name x np) X.env) Q E s := by
  obtain ⟨h1, h2, h3⟩ := hc
  rw [← e1]
  have g : Gl Y x := by unfold Gl at h1 ⊢; rw [e1]; exact h1
  cases h3 with
  | inl h => exact ld_glob J g (by rw [e2]; exact h) q h2
  | inr h => exact ld_blt J g (by rw [e2]; exact And.left h) (And.left (And.right h)) q (And.right (And.right h)) h2
section
variable {X : Cx} {body : List Stmt} {h0 : ExceptHandler} {hs : List ExceptHandler} {l : List Cl} {pos : Pos} {tb : WX → TS} {out : WX}
theorem ps_try_cl (es : X.stack = X.env :: X.outer) (ef : X.env.frame = some X.env.locals) (nd : X.N.Nodup) (tk : Takes X out)
    (hb : ∀ (W : WX) (pn : List (Addr × Obj)) (xe : Value → Shared → Prop), Takes (X.tr pn xe) W → PassesOwn (model X.prog X.w) X.A X.env xe → PSs (X.tr pn xe) body (tb W))
    (hh : ClOk X (h0 :: hs) l) : PS X (.Try body (h0 :: hs) [] [] pos) (fun D σ H => tb (wCl X.K out D l) D σ H) := by
  refine ⟨fun pins s σ H D I h => wpAny_Try_except ?_⟩
  have ok := I.ok
  have fr : X.A.frames = some (X.env :: X.outer) := by rw [ok.frames, es]
  have bod := hb (wCl X.K out D l) (X.pn ++ pins) (fun e s₁ => wpAny (model X.prog X.w) X.A (noteFrame e X.env) (fun _ s₂ => wpAny (model X.prog X.w) X.A (setFlight e none) (fun _ s₃ => wpAny (model X.prog X.w) X.A (handleBy e X.env (h0 :: hs)) (SP X pins D) X.xe s₃) X.xe s₂) X.xe s₁)
  refine wpAny_mono ((bod (fun u s' air => ?_) PassesOwn.looking).run [] s σ H D (I.toTry _) h) (fun f s1 hsp => ?_) (fun _ _ z => z)
  · obtain ⟨a, B, sI, pins', τ, G, cls, d, rfl, J1, nb, up, sky, na, os, ag, wish⟩ := air
    have J : Inv X pins τ G sI := J1.ofTry ok
    rw [show (X.tr (X.pn ++ pins) _).stack = X.env :: X.outer from es] at sky
    refine Sky.land Zc.steady fr ef sky fun h3 fly up3 => ?_
    have J3 : Inv X pins τ G { s' with heap := h3 } := J.landed nb fly.1 (up.trans up3) os ag
    obtain ⟨oe, fv, at3, zc3, fd3⟩ := fly.there
    have off : a ∉ frs (X.env :: X.outer) := fun hm => by
      obtain ⟨_, o, e, nf⟩ := fly.2.2.1.mem hm
      rw [at3] at e
      cases e
      exact nf _ fd3
    have nL : a ≠ X.env.locals := fun z => off (List.mem_filterMap.mpr ⟨X.env, List.mem_cons_self, by rw [ef, z]⟩)
    have nF : a ∉ X.fs := fun hm => by
      obtain ⟨e, he, q⟩ := List.mem_filterMap.mp hm
      exact off (List.mem_filterMap.mpr ⟨e, List.mem_cons_of_mem _ he, q⟩)
    have typ : PySem.W.Looks (model X.prog X.w) h3 (typeOf (.ref a)) cls := fun A Q E s k q => wpAny_typeOf_ref (k _ _ at3) (by rw [And.left zc3]; exact q)
    have su0 := J3.suite at3 fd3 na nL nF
    have all : ∀ {hs' : List ExceptHandler} {l' : List Cl}, ClOk X hs' l' → wCl X.K out D l' cls d τ G → wpAny (model X.prog X.w) X.A (handleBy (.ref a) X.env hs') (SP X pins D) X.xe { s' with heap := h3 } := by
      intro hs' l' ck
      induction ck with
      | nil =>
        intro w
        obtain ⟨k1, k2, k3, oo, ov, T, oT, ts', e1, e2, e3, e4, e5⟩ := id fly
        refine wpAny_handleBy_nil ?_
        unfold PySem.passOn
        refine wpAny_bind (wpAny_field e1 e3 e4 ?_)
        rw [if_neg (show ¬ ((Value.ref T == Value.none) = true) from by simp)]
        have go : wpAny (model X.prog X.w) X.A (setFlight (.ref a) X.env.frame) (fun _ s4 => wpAny (model X.prog X.w) X.A (throw (.ref a) : Sem Flow) (SP X pins D) X.xe s4) X.xe { s' with heap := h3 } := by
          rw [ef]
          exact HandSPX.setFlight_upZ fly fun h4 held up4 => wpAny_throw (tk _ _ ⟨a, B, sI, pins, τ, G, cls, d, rfl, J, nb, (up.trans up3).trans up4, Or.inr (Or.inr (by rw [es]; exact held)), na, os, ag, w⟩)
        first
          | exact wpAny_bind (wpAny_pure (wpAny_bind go))
          | exact wpAny_bind go
      | @nm x n c i ts b0 st np pos hs2 l2 hi hl hc su r ih =>
        rintro ⟨b, hb1, yes, no⟩
        refine wpAny_handleBy_cons (codeAny_handlers_test ?_) (by intro q; cases q)
        refine clause_name (Y := X.suite a ((a, oe) :: (X.pn ++ pins))) hc su0 rfl rfl ((PySem.W.exm_one (M := model X.prog X.w) J3.kIn typ hb1).here ?_)
        match b, yes, no with
        | false, _, no => exact ih (no rfl)
        | true, yes, _ =>
          refine codeAny_handlers_suite_as (HandSPX.lands_againZ fly fun h4 fly4 up4 => ?_)
          obtain ⟨o4, v4, at4, zc4, fd4⟩ := fly4.there
          have su4 := (J.landed (s' := { s' with heap := h4 }) nb fly4.1 ((up.trans up3).trans up4) os ag).suite at4 fd4 na nL nF
          refine store_ok (X := X.suite a ((a, o4) :: (X.pn ++ pins))) (v := .ref a) su4 nd hi (Or.inl hl) rfl (fun s5 S5 => ?_) (Or.inr hl)
          refine wpAny_mono ((su a o4 cls d (X.pn ++ pins) zc4 ⟨_, fd4⟩).run [] s5 _ G _ S5 (yes rfl a na)) (fun f s6 fin => ?_) (fun _ _ z => z.elim)
          cases f with
          | next =>
            obtain ⟨τ6, G6, S6, q6⟩ := fin
            exact gone_ok (S6.unsuite ok) nd hi hl fun s7 J7 => ⟨_, _, J7, q6⟩
          | brk =>
            obtain ⟨τ6, G6, S6, q6⟩ := fin
            exact gone_ok (S6.unsuite ok) nd hi hl fun s7 J7 => ⟨_, _, J7, q6⟩
          | cont =>
            obtain ⟨τ6, G6, S6, q6⟩ := fin
            exact gone_ok (S6.unsuite ok) nd hi hl fun s7 J7 => ⟨_, _, J7, q6⟩
          | ret u =>
            obtain ⟨v6, τ6, G6, S6, r6, q6⟩ := fin
            exact gone_ok (S6.unsuite ok) nd hi hl fun s7 J7 => ⟨_, _, _, J7, r6, q6⟩
      | @no x c ts b0 st np pos hs2 l2 hc su r ih =>
        rintro ⟨b, hb1, yes, no⟩
        refine wpAny_handleBy_cons (codeAny_handlers_test ?_) (by intro q; cases q)
        refine clause_name (Y := X.suite a ((a, oe) :: (X.pn ++ pins))) hc su0 rfl rfl ((PySem.W.exm_one (M := model X.prog X.w) J3.kIn typ hb1).here ?_)
        match b, yes, no with
        | false, _, no => exact ih (no rfl)
        | true, yes, _ =>
          refine codeAny_handlers_suite (HandSPX.lands_againZ fly fun h4 fly4 up4 => ?_)
          obtain ⟨o4, v4, at4, zc4, fd4⟩ := fly4.there
          have su4 := (J.landed (s' := { s' with heap := h4 }) nb fly4.1 ((up.trans up3).trans up4) os ag).suite at4 fd4 na nL nF
          refine wpAny_mono ((su a o4 cls d (X.pn ++ pins) zc4 ⟨_, fd4⟩).run [] _ _ G _ su4 (yes rfl a na)) (fun f s6 fin => ?_) (fun _ _ z => z.elim)
          cases f with
          | next =>
            obtain ⟨τ6, G6, S6, q6⟩ := fin
            exact Exists.intro τ6 (Exists.intro G6 (And.intro (S6.unsuite ok) q6))
          | brk =>
            obtain ⟨τ6, G6, S6, q6⟩ := fin
            exact Exists.intro τ6 (Exists.intro G6 (And.intro (S6.unsuite ok) q6))
          | cont =>
            obtain ⟨τ6, G6, S6, q6⟩ := fin
            exact Exists.intro τ6 (Exists.intro G6 (And.intro (S6.unsuite ok) q6))
          | ret u =>
            obtain ⟨v6, τ6, G6, S6, r6, q6⟩ := fin
            exact Exists.intro v6 (Exists.intro τ6 (Exists.intro G6 (And.intro (S6.unsuite ok) (And.intro r6 q6))))
    exact all hh wish
  · cases f with
    | next =>
      obtain ⟨τ, G, J, q⟩ := hsp
      exact wpAny_execs_nil (Exists.intro τ (Exists.intro G (And.intro (J.ofTry ok) q)))
    | brk =>
      obtain ⟨τ, G, J, q⟩ := hsp
      exact Exists.intro τ (Exists.intro G (And.intro (J.ofTry ok) q))
    | cont =>
      obtain ⟨τ, G, J, q⟩ := hsp
      exact Exists.intro τ (Exists.intro G (And.intro (J.ofTry ok) q))
    | ret u =>
      obtain ⟨v, τ, G, J, r, q⟩ := hsp
      exact Exists.intro v (Exists.intro τ (Exists.intro G (And.intro (J.ofTry ok) (And.intro r q))))
end
end IC
namespace IC
open PySem L2 TL
/-! ### what is never come to -/
section
variable {X : Cx}
theorem ps_dead {st : Stmt} : PS X st (fun _ _ _ => False) := ⟨fun _ _ _ _ _ _ h => h.elim⟩
theorem pss_dead {ss : List Stmt} : PSs X ss (fun _ _ _ => False) := ⟨fun _ _ _ _ _ _ h => h.elim⟩
theorem pt_dead {e : Expr} : PT X e (fun _ _ _ => False) := ⟨fun _ _ _ _ _ _ h => h.elim⟩
theorem pe_dead {e : Expr} : PE X e (fun _ _ _ => False) := ⟨fun _ _ _ _ _ _ h => h.elim⟩
end
/-! ### methods by their class -/
structure MDf (P : Program) (w : World) (K : PySem.W.Frag) (mg : Str → Option Value) (base : Heap) (CX : CXT) (k : Nat) (C : Addr) (m : Str) (ps : List Str) (dvs : List V) (sp : Sp) : Prop where
  ex : ∃ (f : Addr) (fd : FuncData) (ds : List Value), FnOk P w K mg base CX k f fd ps sp ∧ Meth K C m f ∧ Binds K fd ps ds ∧ Vals dvs ds
/-- o.m(..), what is raised is wished for at the caller's slots -/
def tMethS (C : Addr) (m : Str) (sp : Sp) (dvs : List V) (E : L2.St → XK) (ta : TE) (t : TA) : TE := fun σ H Q => ta σ H fun x H1 => ∃ a dx fs, x = .ref a ∧ H1 a = some (.ins C dx fs) ∧ fs.lookup m = none ∧
  t σ H1 fun vs H2 => sp (x :: (vs ++ dvs)) H2 Q (E σ)
section
variable {X : Cx} {k j : Nat} {C : Addr} {m : Str} {ps : List Str} {dvs : List V} {sp : Sp} {o e : Expr} {es : List Expr} {pos apos : Pos} {ta : TE} {t : TA} {pl : Sem Bool} {W : WX}
theorem pe_md (D : MDf X.prog X.w X.K X.mg X.base CX0 k C m ps dvs sp) (c : Cls X.K C) (hr : Room j X.A) (hk : k ≤ j) (he : PE X o ta) (ha : PA X (e :: es) t)
    (hst : starEach (e :: es) X.env = (false, eval e X.env) :: starEach es X.env := by rfl) (hpl : (backTo pos (starEach es X.env)).any (·.1) = false := by rfl)
    (ht : eval (.Call (.Attribute o m apos) (e :: es) [] pos) X.env = (do
      let ov ← eval o X.env; standAt apos.atName
      let (f, first) ← holding [ov] (getMethod ov m pl); callWith pos f first (backTo pos (starEach (e :: es) X.env)) (backToKw pos (keywordEach [] X.env))) := by rfl) :
    PE X (.Call (.Attribute o m apos) (e :: es) [] pos) (tMeth C m sp dvs E0 ta t) := by
  obtain ⟨f, fd, ds, F, hm, hb, hd⟩ := D.ex
  exact pe_meth he c hm F (hr.mono hk) hb hd pass0 ha hst hpl ht
theorem pe_md0 (D : MDf X.prog X.w X.K X.mg X.base CX0 k C m ps dvs sp) (c : Cls X.K C) (hr : Room j X.A) (hk : k ≤ j) (he : PE X o ta)
    (ht : eval (.Call (.Attribute o m apos) [] [] pos) X.env = (do
      let ov ← eval o X.env; standAt apos.atName
      let (f, first) ← holding [ov] (getMethod ov m pl); callWith pos f first (backTo pos (starEach [] X.env)) (backToKw pos (keywordEach [] X.env))) := by rfl) :
    PE X (.Call (.Attribute o m apos) [] [] pos) (tMeth C m sp dvs E0 ta tNil) := by
  obtain ⟨f, fd, ds, F, hm, hb, hd⟩ := D.ex
  exact pe_meth0 he c hm F (hr.mono hk) hb hd pass0 ht
theorem pe_mdX (D : MDf X.prog X.w X.K X.mg X.base (L2.CX X.prog X.w) k C m ps dvs sp) (c : Cls X.K C) (tk : Takes X W) (hr : Room j X.A) (hk : k ≤ j) (he : PE X o ta) (ha : PA X (e :: es) t)
    (hst : starEach (e :: es) X.env = (false, eval e X.env) :: starEach es X.env := by rfl) (hpl : (backTo pos (starEach es X.env)).any (·.1) = false := by rfl)
    (ht : eval (.Call (.Attribute o m apos) (e :: es) [] pos) X.env = (do
      let ov ← eval o X.env; standAt apos.atName
      let (f, first) ← holding [ov] (getMethod ov m pl); callWith pos f first (backTo pos (starEach (e :: es) X.env)) (backToKw pos (keywordEach [] X.env))) := by rfl) :
    PE X (.Call (.Attribute o m apos) (e :: es) [] pos) (tMethS C m sp dvs (WE W) ta t) := by
  obtain ⟨f, fd, ds, F, hm, hb, hd⟩ := D.ex
  refine ⟨fun pins s σ H Q I h => PySem.W.methodCall_KW (pl := pl) (thn (he.run pins s σ H _ I h) fun u s1 ⟨x, H1, I1, rx, a, dx, fs, ex, ea, l, q⟩ => ?_) ht⟩
  subst ex
  obtain rfl : u = Value.ref a := rx
  refine getmeth_ok I1 ea c hm l (PySem.W.callWith_K (first := [.ref a]) (h₀ := X.base) I1.ok.mod.kin hm.kp (thn (ha.run pos pins s1 σ H1 _ I1 q) fun us s2 ⟨vs, H2, I2, r, q2⟩ => ⟨I2.kIn, ?_⟩) hst hpl)
  exact run_fnSD (us := .ref a :: us) (vs := .ref a :: vs) F (hr.mono hk) hb hd (passAt tk σ) I2 (.cons rfl r) q2
theorem pe_mdX0 (D : MDf X.prog X.w X.K X.mg X.base (L2.CX X.prog X.w) k C m ps dvs sp) (c : Cls X.K C) (tk : Takes X W) (hr : Room j X.A) (hk : k ≤ j) (he : PE X o ta)
    (ht : eval (.Call (.Attribute o m apos) [] [] pos) X.env = (do
      let ov ← eval o X.env; standAt apos.atName
      let (f, first) ← holding [ov] (getMethod ov m pl); callWith pos f first (backTo pos (starEach [] X.env)) (backToKw pos (keywordEach [] X.env))) := by rfl) :
    PE X (.Call (.Attribute o m apos) [] [] pos) (tMethS C m sp dvs (WE W) ta tNil) := by
  obtain ⟨f, fd, ds, F, hm, hb, hd⟩ := D.ex
  refine ⟨fun pins s σ H Q I h => PySem.W.methodCall_KW (pl := pl) (thn (he.run pins s σ H _ I h) fun u s1 ⟨x, H1, I1, rx, a, dx, fs, ex, ea, l, q⟩ => ?_) ht⟩
  subst ex
  obtain rfl : u = Value.ref a := rx
  refine getmeth_ok I1 ea c hm l ?_
  exact PySem.W.callWith_K0 (first := [.ref a]) I1.kIn hm.kp (run_fnSD (us := [.ref a]) (vs := [.ref a]) F (hr.mono hk) hb hd (passAt tk σ) I1 (.cons rfl .nil) q)
end
/-- a property by its class -/
structure PDf (P : Program) (w : World) (K : PySem.W.Frag) (mg : Str → Option Value) (base : Heap) (k : Nat) (C : Addr) (f : Str) (sp : Sp) : Prop where
  ex : ∃ (p g : Addr) (fd : FuncData), PropOf K C f p g ∧ FnOk P w K mg base CX0 k g fd ["self"] sp ∧ Binds K fd ["self"] []
theorem pe_pd {X : Cx} {k j : Nat} {C : Addr} {f : Str} {sp : Sp} {e : Expr} {ta : TE} {pos : Pos} (D : PDf X.prog X.w X.K X.mg X.base k C f sp) (c : Cls X.K C) (hr : Room j X.A) (hk : k + 1 ≤ j) (he : PE X e ta)
    (hab : attributeBase e f X.env (eval e X.env) = eval e X.env := by rfl) : PE X (.Attribute e f pos) (tProp C sp [] E0 ta) := by
  obtain ⟨p, g, fd, hp, F, hb⟩ := D.ex
  exact pe_prop he c hp F (hr.mono hk) hb .nil pass0 hab
/-! ### own errors with fields -/
structure ErrC (K : PySem.W.Frag) (mg : Str → Option Value) (x : Str) (C fI : Addr) : Prop where
  gC : mg x = some (.ref C)
  ox : OexC K C
  xf : XfC K C
  iC : PySem.W.findIn K (.ref C) "__init__" = some (some (.ref fI))
  tI : PySem.W.typeIn K (.ref fI) = some (.type "function")
/-- __init__(self, v): the fields fs v are laid -/
def spErr (C : Addr) (fs : V → List (Str × V)) : Sp := fun vs H Q _ => ∃ (a : Addr) (v : V), vs = [.ref a, v] ∧ H a = some (exo a C none) ∧
  ∀ (d : Addr) (H' : Hp), H d = none → d ≠ a → H' a = some (exo a C (some d)) → H' d = some (exd d (fs v)) → (∀ b, b ≠ a → b ≠ d → H' b = H b) → Q .non H'
structure EDf (P : Program) (w : World) (K : PySem.W.Frag) (mg : Str → Option Value) (base : Heap) (k : Nat) (x : Str) (C : Addr) (p : Str) (fs : V → List (Str × V)) : Prop where
  ex : ∃ (fI : Addr) (fd : FuncData), ErrC K mg x C fI ∧ FnOk P w K mg base CX0 k fI fd ["self", p] (spErr C fs) ∧ Binds K fd ["self", p] []
def tMkE (C : Addr) (fs : V → List (Str × V)) (ta : TA) : L2.St → Hp → XK → Prop := tMkO C (spErr C fs) [] ta
theorem pmk_ed {X : Cx} {k j : Nat} {x q : Str} {C : Addr} {fs : V → List (Str × V)} {e : Expr} {ta : TA} {p pos : Pos} (D : EDf X.prog X.w X.K X.mg X.base k x C q fs) (kC : PySem.W.keepIn X.K (.ref C) = true) (hr : Room j X.A) (hk : k + 1 ≤ j) (hg : Gl X x) (ha : PA X [e] ta)
    (hdb : (x == ("__debug__" : Str)) = false := by decide) (he : starEach [e] X.env = (false, eval e X.env) :: starEach [] X.env := by rfl) (hpl : (backTo pos (starEach [] X.env)).any (·.1) = false := by rfl) :
    PMk X (.Call (.Name x p) [e] [] pos) (tMkE C fs ta) := by
  obtain ⟨fI, fd, T, F, hb⟩ := D.ex
  exact pmk_oex T.ox T.iC T.tI F (hr.mono hk) hb .nil pass0 hg T.gC ha hdb he hpl
theorem upd_del {H1 H2 : Hp} {a d : Addr} {o : HO} (ha : H1 a = none) (e : ∀ b, b ≠ a → b ≠ d → H2 b = H1 b) (hd : d ≠ a) : upd (del H2 a) d o = upd H1 d o := by
  funext b
  by_cases h1 : b = d
  · rw [h1, upd_same, upd_same]
  · rw [upd_ne h1, upd_ne h1]
    by_cases h2 : b = a
    · rw [h2, del_same, ha]
    · rw [del_ne h2]
      exact e b h2 h1
/-- what the making of such an error asks -/
theorem mke {C : Addr} {fs : V → List (Str × V)} {vs : List V} {H1 : Hp} {Q : XK} (v : V) (hv : vs = [v]) (h : ∀ d, H1 d = none → Q (.ref C) (some d) (upd H1 d (.xd (fs v)))) :
    vs.length ≤ 1000 ∧ ∀ a, H1 a = none → spErr C fs (.ref a :: (vs ++ [])) (upd H1 a (exo a C none))
      (fun v H2 => v = .non ∧ ∃ (d : Addr) (fs : List (Str × V)), H2 a = some (exo a C (some d)) ∧ H2 d = some (exd d fs) ∧ H1 d = none ∧ Q (.ref C) (some d) (upd (del H2 a) d (.xd fs))) (fun _ _ _ => False) := by
  subst hv
  refine ⟨by show 1 ≤ 1000; omega, fun a ha => ⟨a, v, rfl, upd_same, fun d H' hd hda e1 e2 e3 => ⟨rfl, d, fs v, e1, e2, ?_, ?_⟩⟩⟩
  · rw [upd_ne hda] at hd
    exact hd
  · rw [upd_ne hda] at hd
    rw [upd_del ha (fun b h1 h2 => by rw [e3 b h1 h2, upd_ne h1]) hda]
    exact h d hd
end IC
namespace IC
open PySem L2 TL PyProof.Rows
/-! ### own errors made without arguments -/
section
variable {X : Cx} {x : Str} {C fI : Addr} {k : Nat} {fd : FuncData} {sp : Sp} {p pos : Pos}
/-- C(), C's own __init__(self) keeping sp -/
def tMk0 (C : Addr) (sp : Sp) : L2.St → Hp → XK → Prop := fun _ H Q => ∀ a, H a = none →
  sp [.ref a] (upd H a (exo a C none)) (fun v H2 => v = .non ∧ ∃ (d : Addr) (fs : List (Str × V)), H2 a = some (exo a C (some d)) ∧ H2 d = some (exd d fs) ∧ H d = none ∧ Q (.ref C) (some d) (upd (del H2 a) d (.xd fs))) E0
theorem pmk_oe0 (T : OexC X.K C) (iC : PySem.W.findIn X.K (.ref C) "__init__" = some (some (.ref fI))) (tI : PySem.W.typeIn X.K (.ref fI) = some (.type "function")) (Fn : FnOk X.prog X.w X.K X.mg X.base CX0 k fI fd ["self"] sp) (hr : Room (k + 1) X.A)
    (hb : Binds X.K fd ["self"] []) (hg : Gl X x) (hm : X.mg x = some (.ref C)) (hdb : (x == ("__debug__" : Str)) = false := by decide) : PMk X (.Call (.Name x p) [] [] pos) (tMk0 C sp) := by
  intro pins s σ H Q I h
  obtain ⟨nm, q, N, bs, bm, sn, sub, ab, col, dd, k0, k1, k2, k3, k5, hC, hbm⟩ := T.cls
  refine wpAny_Call_Name_kw (ld_glob I hg hm (PySem.W.callWith_K0 I.kIn T.kC ?_) hdb)
  obtain ⟨hp, g, dr, tk, os⟩ := s
  obtain ⟨e, he⟩ : ∃ e, e = hp.objs.size + 1 := ⟨_, rfl⟩
  have le : hp.objs.size ≤ e := by rw [he]; exact Nat.le_succ _
  have ne : H e = none := I.hok.fresh le
  have up : ∀ b o, hp.get? b = some o → ((hp.push (PySem.W.kdv_tup [])).push (PySem.HandSPX.excO C hp.objs.size)).get? b = some o := fun b o z => Heap.get?_push_of_some _ (Heap.get?_push_of_some _ z)
  have at_ : ((hp.push (PySem.W.kdv_tup [])).push (PySem.HandSPX.excO C hp.objs.size)).get? e = some (PySem.HandSPX.excO C hp.objs.size) := by
    rw [he]
    heap_get
  have J : Inv X pins σ (upd H e (exo e C none)) ⟨(hp.push (PySem.W.kdv_tup [])).push (PySem.HandSPX.excO C hp.objs.size), g, dr, tk, os⟩ := I.laid (t' := tk) up le (exo_ok at_)
  have go := Fn.run _ X.stack _ _ ⟨[Value.ref e], []⟩ [Value.ref e] [V.ref e] _ E0 (hr.make C [] []) (J.env0.make C [] []) (by have z := hb _ [Value.ref e] J.kIn rfl; rw [List.append_nil] at z; exact z) (.cons (show RelV (V.ref e) (Value.ref e) from rfl) .nil) (h e ne)
  subst he
  refine wpAny_call (PySem.HandSPX.call_own PySem.F.excBase_ValueError (fun Y => PySem.HandSPX.refsVE_contains Y bm hbm) (I.kIn _ _ hC) (PySem.W.looks_findIn I.kIn iC) (fun self => PySem.W.bind_fn I.kIn self tI) (Nat.zero_le _) (codeAny_mono go fun r s' z => ?_))
  match r, z with
  | .error er, z => exact False.elim z
  | .ok .next, z => exact False.elim z
  | .ok .brk, z => exact False.elim z
  | .ok .cont, z => exact False.elim z
  | .ok (.ret u), z =>
    obtain ⟨v, H2, o2, b2, u2, ok2, rv, ev, d, fs, ea, ed, hd, q2⟩ := z
    subst ev
    obtain ⟨h2, g2, d2, t2, os2⟩ := s'
    exact And.intro rv (mk_end (raises_own T.exC T.tyC) I le up u2 ok2 o2 b2 ea ed hd q2)
end
/-- __init__(self) of such an error: the fields fs are laid -/
def spErr0 (C : Addr) (fs : List (Str × V)) : Sp := fun vs H Q _ => ∃ a : Addr, vs = [.ref a] ∧ H a = some (exo a C none) ∧
  ∀ (d : Addr) (H' : Hp), H d = none → d ≠ a → H' a = some (exo a C (some d)) → H' d = some (exd d fs) → (∀ b, b ≠ a → b ≠ d → H' b = H b) → Q .non H'
theorem mke0 {C : Addr} {fs : List (Str × V)} {H : Hp} {Q : XK} {σ : L2.St} (h : ∀ d, H d = none → Q (.ref C) (some d) (upd H d (.xd fs))) : tMk0 C (spErr0 C fs) σ H Q := fun a ha =>
  ⟨a, rfl, upd_same, fun d H' hd hda e1 e2 e3 => by
    rw [upd_ne hda] at hd
    refine ⟨rfl, d, fs, e1, e2, hd, ?_⟩
    rw [upd_del ha (fun b h1 h2 => by rw [e3 b h1 h2, upd_ne h1]) hda]
    exact h d hd⟩
end IC
namespace IC
open PySem L2 TL PyProof.Rows
/-- C(), a class without an own __init__ -/
theorem pmk_plain0 {X : Cx} {C : Addr} {bmB : List Value} {B newId initId : String} {x : Str} {p pos : Pos} (Fb : ExcBaseFacts B newId initId bmB) (q : PySem.W.excIn X.K C bmB newId = true) (gC : X.mg x = some (.ref C)) (kC : PySem.W.keepIn X.K (.ref C) = true)
    (r : Raises X (.ref C)) (hg : Gl X x) (hdb : (x == ("__debug__" : Str)) = false := by decide) : PMk X (.Call (.Name x p) [] [] pos) (fun _ H Q => Q (.ref C) none H) := by
  intro pins s σ H Q I h
  refine wpAny_Call_Name_kw (ld_glob I hg gC (PySem.W.callWith_K0 I.kIn kC ?_) hdb)
  obtain ⟨bm, N, nm, qn, bs, hdct, sn, sub, ab, col, dd, k0, k1, k2, k3, k5, mN, hC, hN, hni, T⟩ := exc_obj I.kIn q
  exact wpAny_call_exc_subT Fb T hC hN hni (fun h' e hm => mk_of I hm r h (I.hok.gone hm.new)) (Nat.zero_le _)
end IC
namespace IC
open PySem L2 TL
/-- an own error without arguments, by its name -/
structure EDf0 (P : Program) (w : World) (K : PySem.W.Frag) (mg : Str → Option Value) (base : Heap) (k : Nat) (x : Str) (C : Addr) (fs : List (Str × V)) : Prop where
  ex : ∃ (fI : Addr) (fd : FuncData), ErrC K mg x C fI ∧ FnOk P w K mg base CX0 k fI fd ["self"] (spErr0 C fs) ∧ Binds K fd ["self"] []
theorem pmk_ed0 {X : Cx} {k j : Nat} {x : Str} {C : Addr} {fs : List (Str × V)} {p pos : Pos} (D : EDf0 X.prog X.w X.K X.mg X.base k x C fs) (hr : Room j X.A) (hk : k + 1 ≤ j) (hg : Gl X x) (hdb : (x == ("__debug__" : Str)) = false := by decide) :
    PMk X (.Call (.Name x p) [] [] pos) (tMk0 C (spErr0 C fs)) := by
  obtain ⟨fI, fd, T, F, hb⟩ := D.ex
  exact pmk_oe0 T.ox T.iC T.tI F (hr.mono hk) hb hg T.gC hdb
end IC
namespace IC
open PySem L2 TL PyProof.Rows
/-! ### o.m(e, .., k = v, ..), what is raised is wished for at the caller's slots -/
structure KDf (P : Program) (w : World) (K : PySem.W.Frag) (mg : Str → Option Value) (base : Heap) (CX : CXT) (k : Nat) (C : Addr) (m : Str) (n : Nat) (ks : List Str) (gV : List V → List V → List V) (ps : List Str) (sp : Sp) : Prop where
  ex : ∃ (f : Addr) (fd : FuncData) (g : List Value → List Value → List Value), FnOk P w K mg base CX k f fd ps sp ∧ Meth K C m f ∧ KBn K fd ps (n + 1) ks g gV
def tMethK (C : Addr) (m : Str) (n j : Nat) (sp : Sp) (gV : List V → List V → List V) (E : L2.St → XK) (ta : TE) (t tk : TA) : TE := fun σ H Q => ta σ H fun x H1 => ∃ a dx fs, x = .ref a ∧ H1 a = some (.ins C dx fs) ∧ fs.lookup m = none ∧
  t σ H1 fun vs H2 => tk σ H2 fun zs H3 => vs.length = n ∧ zs.length = j ∧ sp (gV (x :: vs) zs) H3 Q (E σ)
theorem pe_mdXK {X : Cx} {k j n : Nat} {C : Addr} {m : Str} {ks ps : List Str} {gV : List V → List V → List V} {sp : Sp} {o e : Expr} {es : List Expr} {kws : List Keyword} {pos apos : Pos} {ta : TE} {t u : TA} {pl : Sem Bool} {W : WX}
    (D : KDf X.prog X.w X.K X.mg X.base (L2.CX X.prog X.w) k C m n ks gV ps sp) (c : Cls X.K C) (tk : Takes X W) (hr : Room j X.A) (hk : k ≤ j) (he : PE X o ta) (ha : PA X (e :: es) t) (hw : PK X kws u)
    (hall : (backToKw pos (keywordEach kws X.env)).all (·.1.isSome) = true := by rfl) (hks : (backToKw pos (keywordEach kws X.env)).filterMap (·.1) = ks := by rfl)
    (hst : starEach (e :: es) X.env = (false, eval e X.env) :: starEach es X.env := by rfl) (hpl : ((backTo pos (starEach (e :: es) X.env)).any (·.1) || (backToKw pos (keywordEach kws X.env)).any (·.1.isNone)) = false := by rfl)
    (ht : eval (.Call (.Attribute o m apos) (e :: es) kws pos) X.env = (do
      let ov ← eval o X.env; standAt apos.atName
      let (f, first) ← holding [ov] (getMethod ov m pl); callWith pos f first (backTo pos (starEach (e :: es) X.env)) (backToKw pos (keywordEach kws X.env))) := by rfl) :
    PE X (.Call (.Attribute o m apos) (e :: es) kws pos) (tMethK C m n ks.length sp gV (WE W) ta t u) := by
  obtain ⟨f, fd, g, F, hm, hb⟩ := D.ex
  refine ⟨fun pins s σ H Q I h => PySem.W.methodCall_KW (pl := pl) (thn (he.run pins s σ H _ I h) fun v s1 ⟨x, H1, I1, rx, a, dx, fs, ex, ea, l, q⟩ => ?_) ht⟩
  subst ex
  obtain rfl : v = Value.ref a := rx
  refine getmeth_ok I1 ea c hm l (PySem.W.callWith_KW (first := [.ref a]) (h₀ := X.base) I1.ok.mod.kin hm.kp hall (thn (ha.run pos pins s1 σ H1 _ I1 q) fun us s2 ⟨vs, H2, I2, r, q2⟩ => ?_) hpl hst)
  refine thn (hw.run pos pins s2 σ H2 _ I2 q2) fun ws s3 ⟨zs, H3, I3, rz, l1, l2, q3⟩ => ⟨I3.kIn, ?_⟩
  rw [hks]
  have r1 : Vals (V.ref a :: vs) (Value.ref a :: us) := .cons rfl r
  have n1 : (Value.ref a :: us).length = n + 1 := by rw [← r1.length, List.length_cons, l1]
  refine wpAny_call (codeAny_mono (F.run X.A X.stack s3 H3 ⟨Value.ref a :: us, ks.zip ws⟩ (g (Value.ref a :: us) ws) (gV (V.ref a :: vs) zs) Q (WE W σ) (hr.mono hk) I3.env0 (hb.to s3 _ ws I3.kIn n1 (by rw [← rz.length]; exact l2)) (hb.rel r1 rz) q3) fun r s' hq => ?_)
  match r, hq with
  | .error er, hq => exact passAt tk σ pins H3 s3 er s' I3 hq
  | .ok (.ret z), hq => exact I3.after hq
  | .ok .next, hq => exact False.elim hq
  | .ok .brk, hq => exact False.elim hq
  | .ok .cont, hq => exact False.elim hq
end IC
namespace IC
open PySem L2 TL
/-! ### a database in which nothing is written -/
abbrev dbf (pv : V) (fl : Int) (b m h k : Addr) : List (Str × V) := [("_present", pv), ("_blocks", .ref b), ("_floor", .int fl), ("_made", .ref m), ("_held", .ref h), ("_kept", .ref k)]
abbrev trf (o s : Addr) (f : V) : List (Str × V) := [("own", .ref o), ("starts", .ref s), ("first", f)]
structure DbP where
  dx : Addr
  b : Addr
  m : Addr
  h : Addr
  k : Addr
  fl : Int
structure TrP where
  dx : Addr
  o : Addr
  s : Addr
def DbAt (C : Addr) (H : Hp) (d : Addr) (p : DbP) (pv : V) (bs : List V) : Prop := H d = some (.ins C p.dx (dbf pv p.fl p.b p.m p.h p.k)) ∧ H p.b = some (.lst bs)
/-- a transaction of n levels, f the top one's first word -/
def TrAt (C : Addr) (H : Hp) (t : Addr) (p : TrP) (n : Nat) (f : V) : Prop := H t = some (.ins C p.dx (trf p.o p.s f)) ∧ H p.o = some (.lst []) ∧ H p.s = some (.lst (List.replicate n (.int 0))) ∧ p.o ≠ p.s
def oV : Option Str → V
  | none => .non
  | some w => .str w
/-- the present transaction: n levels, f the top one's first word; without one n = 0 -/
def PrAt (C : Addr) (H : Hp) (b : Addr) (pv : V) (n : Nat) (f : Option Str) : Prop := (n = 0 ∧ f = none ∧ pv = .non) ∨ (0 < n ∧ ∃ (t : Addr) (p : TrP), pv = .ref t ∧ TrAt C H t p n (oV f) ∧ p.o ≠ b ∧ p.s ≠ b)
inductive Ek where
  | miss : Ek
  | pres : Ek
  | doom : Str → Ek
  | noth : Ek
  | dooms : Ek
  | fresh : Ek
  | inner : Ek
def entF (z : Str) : Ek := if decide (V.str z = V.str "must") = true then .miss else if inV (.str z) [.str "either", .str "never", .str "outside"] = true then .noth else .fresh
def entP (f : Option Str) (z : Str) : Ek :=
  if inV (.str z) [.str "never", .str "alone"] = true then .pres else if inV (.str z) [.str "join", .str "must", .str "either"] = true then .dooms else if decide (V.str z = V.str "outside") = true then .noth else
  if decide (V.str z = V.str "apart") = true then .fresh else match f with
  | some w => .doom w
  | none => .inner
def ent (n : Nat) (f : Option Str) (z : Str) : Ek := if n = 0 then entF z else entP f z
abbrev fsM (v : V) : List (Str × V) := [("word", .str "missing"), ("mode", v)]
abbrev fsP (v : V) : List (Str × V) := [("word", .str "present"), ("mode", v)]
abbrev fsD (v : V) : List (Str × V) := [("word", .str "doomed"), ("first", v)]
structure Cs where
  D : Addr
  T : Addr
  M : Addr
  P : Addr
  O : Addr
/-- an error goes out: nothing that stood has changed -/
def ErrQ (C : Addr) (fs : List (Str × V)) (H : Hp) (E : XK) : Prop := ∀ (x : Addr) (H' : Hp), Same H H' → H' x = some (.xd fs) → E (.ref C) (some x) H'
def FrQ (c : Cs) (H : Hp) (d : Addr) (p : DbP) (bs : List V) (z : Str) (Q : VK) (E : XK) : Ek → Prop
  | .miss => ErrQ c.M (fsM (.str z)) H E
  | .noth => ∀ H', Same H H' → Q (.str "nothing") H'
  | .fresh => ∀ (H' : Hp) (t : Addr) (q : TrP), Kp [d] H H' → H t = none → H q.o = none → H q.s = none → TrAt c.T H' t q 1 .non → DbAt c.D H' d p (.ref t) bs → Q (.str "ends") H'
  | _ => True
def spFree (c : Cs) : Sp := fun vs H Q E => ∃ (d : Addr) (p : DbP) (bs : List V) (z : Str), vs = [.ref d, .str z] ∧ DbAt c.D H d p .non bs ∧ FrQ c H d p bs z Q E (entF z)
def PsQ (c : Cs) (H : Hp) (d : Addr) (p : DbP) (bs : List V) (z : Str) (t : Addr) (q : TrP) (n : Nat) (Q : VK) (E : XK) : Ek → Prop
  | .pres => ErrQ c.P (fsP (.str z)) H E
  | .doom w => ErrQ c.O (fsD (.str w)) H E
  | .noth => ∀ H', Kp [d] H H' → DbAt c.D H' d p .non bs → Q (.str "nothing") H'
  | .dooms => ∀ H', Same H H' → Q (.str "dooms") H'
  | .fresh => ∀ (H' : Hp) (t : Addr) (q : TrP), Kp [d] H H' → H t = none → H q.o = none → H q.s = none → TrAt c.T H' t q 1 .non → DbAt c.D H' d p (.ref t) bs → Q (.str "ends") H'
  | .inner => ∀ H', Kp [q.s] H H' → TrAt c.T H' t q (n + 1) .non → Q (.str "ends") H'
  | _ => True
def spPres (c : Cs) : Sp := fun vs H Q E => ∃ (d : Addr) (p : DbP) (bs : List V) (z : Str) (t : Addr) (q : TrP) (n : Nat) (f : Option Str), vs = [.ref d, .str z, .ref t] ∧ DbAt c.D H d p (.ref t) bs ∧ TrAt c.T H t q n (oV f) ∧ n ≤ 1000 ∧ PsQ c H d p bs z t q n Q E (entP f z)
def EnQ (c : Cs) (H : Hp) (d : Addr) (p : DbP) (bs : List V) (z : Str) (pv : V) (n : Nat) (Q : VK) (E : XK) : Ek → Prop
  | .miss => ErrQ c.M (fsM (.str z)) H E
  | .pres => ErrQ c.P (fsP (.str z)) H E
  | .doom w => ErrQ c.O (fsD (.str w)) H E
  | .noth => ∀ (H' : Hp) (y : Addr), Kp [d, p.b] H H' → DbAt c.D H' d p .non (bs ++ [.ref y]) → H' y = some (.tup [.str "nothing", pv]) → Q .non H'
  | .dooms => ∀ (H' : Hp) (y : Addr), Kp [p.b] H H' → DbAt c.D H' d p pv (bs ++ [.ref y]) → H' y = some (.tup [.str "dooms", pv]) → Q .non H'
  | .fresh => ∀ (H' : Hp) (y t : Addr) (q : TrP), Kp [d, p.b] H H' → H t = none → H q.o = none → H q.s = none → TrAt c.T H' t q 1 .non → DbAt c.D H' d p (.ref t) (bs ++ [.ref y]) → H' y = some (.tup [.str "ends", pv]) → Q .non H'
  | .inner => ∀ (H' : Hp) (y t : Addr) (q : TrP), pv = .ref t → TrAt c.T H t q n .non → q.o ≠ p.b → q.s ≠ p.b → Kp [p.b, q.s] H H' → TrAt c.T H' t q (n + 1) .non → DbAt c.D H' d p pv (bs ++ [.ref y]) → H' y = some (.tup [.str "ends", pv]) → Q .non H'
def spEnter (c : Cs) : Sp := fun vs H Q E => ∃ (d : Addr) (p : DbP) (bs : List V) (z : Str) (pv : V) (n : Nat) (f : Option Str), vs = [.ref d, .str z] ∧ z ∈ modesS ∧ DbAt c.D H d p pv bs ∧ PrAt c.T H p.b pv n f ∧ bs.length ≤ 1000 ∧ n ≤ 1000 ∧ EnQ c H d p bs z pv n Q E (ent n f z)
def spTrInit (c : Cs) : Sp := fun vs H Q _ => ∃ (t dx : Addr), vs = [.ref t] ∧ H t = some (.ins c.T dx []) ∧ ∀ (H' : Hp) (o s : Addr), Kp [t] H H' → H o = none → H s = none → TrAt c.T H' t ⟨dx, o, s⟩ 1 .non → Q .non H'
def spTrDoom (c : Cs) : Sp := fun vs H Q _ => ∃ (t : Addr) (q : TrP) (n : Nat) (f : Option Str) (w : Str), vs = [.ref t, .str w] ∧ TrAt c.T H t q n (oV f) ∧ ∀ H', Kp [t] H H' → TrAt c.T H' t q n (oV (match f with | none => some w | some u => some u)) → Q .non H'
def spDbInit (c : Cs) : Sp := fun vs H Q _ => ∃ (d dx : Addr), vs = [.ref d] ∧ H d = some (.ins c.D dx []) ∧ ∀ (H' : Hp) (b m h k : Addr), Kp [d] H H' → H b = none → DbAt c.D H' d ⟨dx, b, m, h, k, 0⟩ .non [] → Q .non H'
/-- a property that only looks -/
def spGet (c : Cs) (g : Nat → Option Str → Nat → V) : Sp := fun vs H Q _ => ∃ (d : Addr) (p : DbP) (bs : List V) (pv : V) (n : Nat) (f : Option Str), vs = [.ref d] ∧ DbAt c.D H d p pv bs ∧ PrAt c.T H p.b pv n f ∧ bs.length ≤ 1000 ∧ n ≤ 1000 ∧ Q (g n f bs.length) H
def spDbDoom (c : Cs) (K : PySem.W.Frag) : Sp := fun vs H Q _ => ∃ (d : Addr) (p : DbP) (bs : List V) (pv : V) (n : Nat) (f : Option Str) (w : Str), vs = [.ref d, .str w] ∧ IsW w ∧ DbAt c.D H d p pv bs ∧ PrAt c.T H p.b pv n f ∧
  ((n = 0 ∧ ∀ H', Same H H' → Q .non H') ∨ (0 < n ∧ ∀ (H' : Hp) (t : Addr) (q : TrP), pv = .ref t → TrAt c.T H t q n (oV f) → Kp [t] H H' → TrAt c.T H' t q n (oV (match f with | none => some w | some u => some u)) → Q .non H'))
def LvQ (c : Cs) (H : Hp) (d : Addr) (p : DbP) (bs : List V) (eff : Str) (bv pv : V) (r : V) (Q : VK) : Prop :=
  ((eff = "nothing" ∨ eff = "dooms") ∧ ∀ H', Kp [d, p.b] H H' → DbAt c.D H' d p bv bs → Q r H') ∨
  (eff = "ends" ∧ ∃ (t : Addr) (q : TrP) (n : Nat), pv = .ref t ∧ n ≤ 1000 ∧ q.o ≠ p.b ∧ q.s ≠ p.b ∧ TrAt c.T H t q (n + 1) .non ∧ ∀ H', Kp [d, p.b, t, q.s] H H' → DbAt c.D H' d p bv bs → TrAt c.T H' t q n .non → Q r H')
def spEndBlock (c : Cs) : Sp := fun vs H Q _ => ∃ (d : Addr) (p : DbP) (bs : List V) (y : Addr) (eff : Str) (bv pv : V), vs = [.ref d, .non, .bl true] ∧ DbAt c.D H d p pv (bs ++ [.ref y]) ∧ H y = some (.tup [.str eff, bv]) ∧ bs.length ≤ 1000 ∧ LvQ c H d p bs eff bv pv (.str "") Q
def spLeave (c : Cs) : Sp := fun vs H Q _ => ∃ (d : Addr) (p : DbP) (bs : List V) (y : Addr) (eff : Str) (bv pv : V) (n : Nat) (f : Option Str), vs = [.ref d, .non, .bl true] ∧ DbAt c.D H d p pv (bs ++ [.ref y]) ∧ PrAt c.T H p.b pv n f ∧ n ≤ 1000 ∧ H y = some (.tup [.str eff, bv]) ∧ bs.length ≤ 900 ∧ LvQ c H d p bs eff bv pv .non Q
def spEndLevel (c : Cs) : Sp := fun vs H Q _ => ∃ (d t : Addr) (p : DbP) (pv : V) (bs : List V) (q : TrP) (n : Nat), vs = [.ref d, .ref t, .non, .bl true] ∧ n ≤ 1000 ∧ DbAt c.D H d p pv bs ∧ q.s ≠ p.b ∧ TrAt c.T H t q (n + 1) .non ∧ ∀ H', Kp [t, q.s] H H' → TrAt c.T H' t q n .non → Q (.str "") H'
def spKeep (c : Cs) : Sp := fun vs H Q _ => ∃ (d t : Addr) (q : TrP) (f : V) (n : Nat), vs = [.ref d, .ref t] ∧ TrAt c.T H t q n f ∧ Q .non H
/-- what the text says of the classes and constants -/
structure DbTxt (K : PySem.W.Frag) (mg : Str → Option Value) (c : Cs) : Prop where
  cD : Cls K c.D
  cT : Cls K c.T
  nP : NoAttr K c.D "_present"
  nB : NoAttr K c.D "_blocks"
  nF : NoAttr K c.D "_floor"
  nM : NoAttr K c.D "_made"
  nH : NoAttr K c.D "_held"
  nK : NoAttr K c.D "_kept"
  nO : NoAttr K c.T "own"
  nS : NoAttr K c.T "starts"
  n1 : NoAttr K c.T "first"
  gE : ∃ u, mg "ENDS" = some u ∧ RelV (.str "ends") u
  gD : ∃ u, mg "DOOMS" = some u ∧ RelV (.str "dooms") u
  gN : ∃ u, mg "NOTHING" = some u ∧ RelV (.str "nothing") u
theorem pe_gv {X : Cx} {x : Str} {v : V} {pos : Pos} (h : ∃ u, X.mg x = some u ∧ RelV v u) (hg : Gl X x) (hdb : (x == ("__debug__" : Str)) = false := by decide) : PE X (.Name x pos) (tC v) := by
  obtain ⟨u, e, r⟩ := h
  exact pe_glob hg e r hdb
/-- a class that is made without arguments -/
structure CDf (P : Program) (w : World) (K : PySem.W.Frag) (mg : Str → Option Value) (base : Heap) (k : Nat) (x : Str) (C : Addr) (sp : Sp) : Prop where
  ex : ∃ (f : Addr) (fd : FuncData), Mk K C f ∧ FnOk P w K mg base CX0 k f fd ["self"] sp ∧ Binds K fd ["self"] [] ∧ mg x = some (.ref C)
theorem pe_mk0 {X : Cx} {k j : Nat} {x : Str} {C : Addr} {sp : Sp} {p pos : Pos} (D : CDf X.prog X.w X.K X.mg X.base k x C sp) (hr : Room j X.A) (hk : k + 1 ≤ j) (hg : Gl X x) (hdb : (x == ("__debug__" : Str)) = false := by decide) :
    PE X (.Call (.Name x p) [] [] pos) (tMake C sp [] E0 tNil) := by
  obtain ⟨f, fd, M, F, hb, hm⟩ := D.ex
  exact pe_make0 M F (hr.mono hk) hg hm hb .nil pass0 hdb
/-- Transaction(): what its making asks -/
theorem mk_tr {c : Cs} {H : Hp} {R : VK} {x dx : Addr} (nx : H x = none) (nd : H dx = none) (_ne : dx ≠ x) (h : ∀ (H' : Hp) (q : TrP), Same H H' → H q.o = none → H q.s = none → TrAt c.T H' x q 1 .non → R .non H') :
    spTrInit c [.ref x] (upd (upd H dx (.own x)) x (.ins c.T dx [])) R E0 := by
  refine ⟨x, dx, rfl, upd_same, fun H' o s kp no ns tr => h H' ⟨dx, o, s⟩ (fun b u e => ?_) ?_ ?_ tr⟩
  · have n1 := ne_of_none e nx
    exact kp b u (by rw [upd_ne n1, upd_ne (ne_of_none e nd)]; exact e) (by simpa using n1)
  · exact (none_of (none_of no).2).2
  · exact (none_of (none_of ns).2).2
theorem DbAt.mv {C : Addr} {H H' : Hp} {d : Addr} {p : DbP} {pv : V} {bs : List V} {l : List Addr} (h : DbAt C H d p pv bs) (k : Kp l H H') (n1 : d ∉ l) (n2 : p.b ∉ l) : DbAt C H' d p pv bs := ⟨k _ _ h.1 n1, k _ _ h.2 n2⟩
theorem DbAt.same {C : Addr} {H H' : Hp} {d : Addr} {p : DbP} {pv : V} {bs : List V} (h : DbAt C H d p pv bs) (k : Same H H') : DbAt C H' d p pv bs := ⟨k _ _ h.1, k _ _ h.2⟩
theorem TrAt.mv {C : Addr} {H H' : Hp} {t : Addr} {q : TrP} {n : Nat} {f : V} {l : List Addr} (h : TrAt C H t q n f) (k : Kp l H H') (n1 : t ∉ l) (n2 : q.o ∉ l) (n3 : q.s ∉ l) : TrAt C H' t q n f := ⟨k _ _ h.1 n1, k _ _ h.2.1 n2, k _ _ h.2.2.1 n3, h.2.2.2⟩
theorem TrAt.same {C : Addr} {H H' : Hp} {t : Addr} {q : TrP} {n : Nat} {f : V} (h : TrAt C H t q n f) (k : Same H H') : TrAt C H' t q n f := ⟨k _ _ h.1, k _ _ h.2.1, k _ _ h.2.2.1, h.2.2.2⟩
theorem PrAt.same {C : Addr} {H H' : Hp} {b : Addr} {pv : V} {n : Nat} {f : Option Str} (h : PrAt C H b pv n f) (k : Same H H') : PrAt C H' b pv n f := by
  rcases h with h | ⟨h0, t, q, e, tr, h1, h2⟩
  · exact .inl h
  · exact .inr ⟨h0, t, q, e, tr.same k, h1, h2⟩
/-- the places of a database and of a transaction differ -/
theorem DbAt.dt {C T : Addr} {H : Hp} {d t : Addr} {p : DbP} {q : TrP} {pv f : V} {bs : List V} {n : Nat} (h : DbAt C H d p pv bs) (g : TrAt T H t q n f) : t ≠ d ∧ q.o ≠ d ∧ q.s ≠ d ∧ t ≠ p.b ∧ q.o ≠ t ∧ q.s ≠ t := by
  refine ⟨fun e => ?_, fun e => ?_, fun e => ?_, fun e => ?_, fun e => ?_, fun e => ?_⟩
  · have z := g.1
    rw [e, h.1] at z
    injection z with z
    injection z with _ _ z
    exact absurd (congrArg List.length z) (by show ¬ (6 = 3); decide)
  · have z := g.2.1
    rw [e, h.1] at z
    cases z
  · have z := g.2.2.1
    rw [e, h.1] at z
    cases z
  · have z := g.1
    rw [e, h.2] at z
    cases z
  · have z := g.2.1
    rw [e, g.1] at z
    cases z
  · have z := g.2.2.1
    rw [e, g.1] at z
    cases z
theorem DbAt.db {C : Addr} {H : Hp} {d : Addr} {p : DbP} {pv : V} {bs : List V} (h : DbAt C H d p pv bs) : p.b ≠ d := fun e => by
  have z := h.2
  rw [e, h.1] at z
  cases z
theorem Kp.sub {l m : List Addr} {H H' : Hp} (k : Kp l H H') (h : ∀ x, x ∈ l → x ∈ m) : Kp m H H' := fun b o e n => k b o e fun z => n (h b z)
theorem mode_in {z : Str} (h : z ∈ modesS) : inV (.str z) modesV = true := by
  simp only [modesS, List.mem_cons, List.not_mem_nil, or_false] at h
  rcases h with rfl | rfl | rfl | rfl | rfl | rfl | rfl | rfl <;> decide +kernel
/-- a block is put on -/
theorem put_block {C : Addr} {H : Hp} {d y : Addr} {p : DbP} {pv : V} {bs ts : List V} (h : DbAt C H d p pv bs) (ny : H y = none) :
    DbAt C (upd (upd H y (.tup ts)) p.b (.lst (bs ++ [.ref y]))) d p pv (bs ++ [.ref y]) ∧ upd (upd H y (.tup ts)) p.b (.lst (bs ++ [.ref y])) y = some (.tup ts) ∧ Kp [p.b] H (upd (upd H y (.tup ts)) p.b (.lst (bs ++ [.ref y]))) :=
  ⟨⟨by rw [upd_ne h.db.symm, upd_ne (ne_of_none h.1 ny)]; exact h.1, upd_same⟩, by rw [upd_ne (ne_of_none h.2 ny).symm, upd_same], (Kp.new ny).mutAt (List.mem_singleton.mpr rfl)⟩
theorem wB_of {z : Str} (h : IsW z) : wB z = true := by
  obtain ⟨h1, h2, h3⟩ := h
  unfold wB
  rw [decide_eq_true h1, decide_eq_true h2]
  show (tl z).all lB = true
  rw [List.all_eq_true]
  intro x hx
  have q := h3 x hx
  unfold lB
  rw [decide_eq_true q.1, decide_eq_true q.2]
  rfl
end IC
namespace IC
open PySem PySem.W PySem.Calls PyProof.Rows PySem.Spec
/-! ### == of plain instances: the same object -/
section
variable {prog : Program} {w : World} {A : Around} {E : Value → Shared → Prop} {s : Shared} {K : Frag} {x C : Addr} {ox : Obj} {od : Option Obj}
theorem same_self {M : Model} {R : Bool → Shared → Prop} (h : R true s) : wpAny M A (isSame (.ref x) (.ref x)) R E s := wpAny_of_eq (show isSame (.ref x) (.ref x) = pure true by simp [isSame]) h
theorem eq_self_body {Q : Fin → Shared → Prop} (hq : Q (.done (.ret (.bool true))) s) : wpAny (model prog w) A (Builtin.«object.__eq__» ⟨[.ref x, .ref x], []⟩) Q E s := by
  unfold Builtin.«object.__eq__»
  repeat (first | with_reducible refine same_self ?_ | wp_step)
  exact hq
theorem own_eq_self {Q : Value → Shared → Prop} (hu : A.units < cLine) (X : K.In s.heap) (I : InstAt s.heap x ox C od) (hm : mroIn K C (.type "object") = some true) (hs : findIn K (.ref C) "__eq__" = some (some (.builtin "object.__eq__"))) (h : Q (.bool true) s) :
    wpAny (model prog w) A (richCompare .Eq (.ref x) (.ref x)) Q E s := by
  have one : wpAny (model prog w) A (tryCompare (.ref x) "__eq__" (.ref x)) (fun r s' => r = some (.bool true) ∧ s' = s) E s := by
    unfold tryCompare
    refine wpAny_bind (HN.ifBound_objEq X I hs (wpAny_call (codeAny_call_builtin F.cmp_object.eq.plain F.cmpEntry_eq (check_slot F.cmpKind_eq F.cmpSplit_eq (I.type.andThen (looks_mroIn X hm)) (F.cmpArgs_eq _ _) (eq_self_body ?_)))))
    exact wpAny_pure ⟨rfl, rfl⟩
  simp only [richCompare, cmpInfo_Eq, oneThing_ref]
  refine wpAny_holding (wpAny_bind (wpAny_cRoomFor hu (wpAny_bind (I.type.here (wpAny_bind (I.type.here ?_))))))
  have eqC : (Value.ref C != Value.ref C) = false := by simp
  rw [eqC]
  simp only [Bool.false_eq_true, if_false]
  refine wpAny_bind (wpAny_pure ?_)
  simp only [Bool.false_eq_true, if_false]
  refine wpAny_bind (wpAny_mono one (fun r s' z => ?_) fun _ _ e => e)
  rcases z with ⟨rfl, rfl⟩
  exact wpAny_pure h
end
end IC
namespace IC
open PySem L2 TL
section
variable {X : Cx}
def rEqSelf (C : Addr) : R2 := fun x y H Q => ∃ (p dx : Addr) (fs : List (Str × V)), x = .ref p ∧ y = .ref p ∧ H p = some (.ins C dx fs) ∧ Q (.bl true) H
theorem op_eqSelf {C : Addr} (hm : PySem.W.mroIn X.K C (.type "object") = some true) (hs : PySem.W.findIn X.K (.ref C) "__eq__" = some (some (.builtin "object.__eq__"))) (hu : X.A.units < cLine) : OpR X (compareOp .Eq) (rEqSelf C) := by
  rintro pins s σ H x y v u Q I rx ry ⟨p, dx, fs, rfl, rfl, hp, q⟩
  cases rx
  cases ry
  rcases StX.insC_at I (.inr ⟨dx, fs, hp⟩) with ⟨ox, od, J, _⟩
  show wpAny (model X.prog X.w) X.A (richCompare .Eq (.ref p) (.ref p)) (EP X pins σ Q) X.xe s
  exact own_eq_self hu I.kIn J hm hs ⟨.bl true, H, I, rfl, q⟩
/-- x in o, o has its own __contains__ -/
def rInOwn (C : Addr) (sp : Sp) : R2 := fun x y H Q => ∃ (p dx : Addr) (fs : List (Str × V)), y = .ref p ∧ H p = some (.ins C dx fs) ∧ sp [.ref p, x] H (fun v H' => ∃ b : Bool, v = .bl b ∧ Q (.bl b) H') E0
theorem op_inOwn {C g : Addr} {k : Nat} {sp : Sp} (has : PySem.W.findIn X.K (.ref C) "__contains__" = some (some (.ref g))) (fn : PySem.W.isFn X.K (.ref g) = true) (F : FnR X.prog X.w X.K X.mg X.base CX0 k g sp) (hr : Room k X.A) : OpR X (compareOp .In) (rInOwn C sp) := by
  rintro pins s σ H x y v u Q I rx ry ⟨p, dx, fs, rfl, hp, h⟩
  cases ry
  rcases StX.insC_at I (.inr ⟨dx, fs, hp⟩) with ⟨ox, od, J, _⟩
  rcases I.fr with ⟨m, hF⟩
  refine PySem.W.in_K hF I.ok.mod.kin J has fn (wpAny_mono (wpAny_call (run_fnR F hr pass0 I (.cons (show RelV (V.ref p) (Value.ref p) from rfl) (.cons rx .nil)) h)) (fun r s' e => ?_) fun _ _ e => e)
  rcases e with ⟨y, H2, I2, ry, b, rfl, q⟩
  have ry : r = Value.bool b := ry
  subst ry
  exact wpAny_truthy_bool ⟨.bl b, H2, I2, rfl, q⟩
/-- o[i] = v, o has its own __setitem__ -/
def rSetOwn (C : Addr) (sp : Sp) : TSet := fun o i v H Q => ∃ (p dx : Addr) (fs : List (Str × V)), o = .ref p ∧ H p = some (.ins C dx fs) ∧ sp [.ref p, i, v] H (fun _ H' => Q H') E0
theorem set_own {C g : Addr} {k : Nat} {sp : Sp} (hq : PySem.W.noSeq X.K C = true) (has : PySem.W.findIn X.K (.ref C) "__setitem__" = some (some (.ref g))) (fn : PySem.W.isFn X.K (.ref g) = true) (F : FnR X.prog X.w X.K X.mg X.base CX0 k g sp) (hr : Room k X.A) : PSet X (rSetOwn C sp) := by
  rintro pins s σ H o i v ov iv u Q I ro ri rv ⟨p, dx, fs, rfl, hp, h⟩
  cases ro
  rcases StX.insC_at I (.inr ⟨dx, fs, hp⟩) with ⟨ox, od, J, _⟩
  rcases I.fr with ⟨m, hF⟩
  refine PySem.W.ksp_setItem hF I.ok.mod.kin J hq has fn (wpAny_mono (wpAny_call (run_fnR F hr pass0 I (.cons (show RelV (V.ref p) (Value.ref p) from rfl) (.cons ri (.cons rv .nil))) h)) (fun r s' e => ?_) fun _ _ e => e)
  rcases e with ⟨y, H2, I2, ry, q⟩
  exact ⟨H2, I2, q⟩
/-- o[i], o has its own __getitem__; what is raised is wished for at the caller's slots -/
def tIxOwn (C : Addr) (sp : Sp) (E : L2.St → XK) (ta tb : TE) : TE := fun σ H Q => ta σ H fun x H1 => tb σ H1 fun y H2 => ∃ (p dx : Addr) (fs : List (Str × V)), x = .ref p ∧ H2 p = some (.ins C dx fs) ∧ sp [.ref p, y] H2 Q (E σ)
theorem pe_ixOwn {C g : Addr} {k : Nat} {sp : Sp} {W : WX} {a b : Expr} {ta tb : TE} {pos : Pos} (has : PySem.W.findIn X.K (.ref C) "__getitem__" = some (some (.ref g))) (fn : PySem.W.isFn X.K (.ref g) = true) (fi : PySem.W.fnIn X.K g = true) (F : FnR X.prog X.w X.K X.mg X.base (L2.CX X.prog X.w) k g sp) (hr : Room (k + 1) X.A) (tk : Takes X W)
    (ha : PE X a ta) (hb : PE X b tb) (hs : ∀ x i, subscripted b true (.ref x) i = runValue (.builtin "lifetime.subscript" ⟨[.ref x, i], []⟩) := by intro _ _; with_unfolding_all rfl) : PE X (.Subscript a b pos) (tIxOwn C sp (WE W) ta tb) := by
  refine ⟨fun pins s σ H Q I h => ?_⟩
  refine PyProof.Rows.Subscript_ (binT ha hb I h fun v u s2 x y H2 I2 rx ry q => ?_)
  rcases q with ⟨p, dx, fs, rfl, hp, h⟩
  cases rx
  rcases StX.insC_at I2 (.inr ⟨dx, fs, hp⟩) with ⟨ox, od, J, _⟩
  rcases I2.fr with ⟨m, hF⟩
  have run := F X.A.in1 X.stack s2 H2 [Value.ref p, u] [V.ref p, y] _ (WE W σ) hr.in1 I2.env0.in1 (.cons (show RelV (V.ref p) (Value.ref p) from rfl) (.cons ry .nil)) h
  refine PySem.W.sub_K hF I2.ok.mod.kin J has fi fn (wpAny_call (codeAny_mono run fun r s' z => ?_)) (hs _ _)
  match r, z with
  | .error er, z => exact passAt tk σ pins H2 s2 er s' I2 z
  | .ok (.ret w), z => exact I2.after z
  | .ok .next, z => exact False.elim z
  | .ok .brk, z => exact False.elim z
  | .ok .cont, z => exact False.elim z
end
end IC
namespace IC
open PySem L2 TL
/-! ### o[i] = v, o has its own __setitem__; what is raised is wished for at the caller's slots -/
/-- a special method by its class -/
structure SpD (P : Program) (w : World) (K : PySem.W.Frag) (mg : Str → Option Value) (base : Heap) (CX : CXT) (k : Nat) (C : Addr) (m : Str) (sp : Sp) : Prop where
  ex : ∃ g : Addr, PySem.W.findIn K (.ref C) m = some (some (.ref g)) ∧ PySem.W.isFn K (.ref g) = true ∧ PySem.W.fnIn K g = true ∧ FnR P w K mg base CX k g sp
section
variable {X : Cx} {C : Addr} {k j : Nat} {sp : Sp}
def gSetX (C : Addr) (sp : Sp) (E : L2.St → XK) (to ti : TE) : TG := fun v σ H Q => to σ H fun x H1 => ti σ H1 fun i H2 => ∃ (p dx : Addr) (fs : List (Str × V)), x = .ref p ∧ H2 p = some (.ins C dx fs) ∧ sp [.ref p, i, v] H2 (fun _ H' => Q σ H') (E σ)
theorem pg_setX {W : WX} {o i : Expr} {to ti : TE} {pos : Pos} (D : SpD X.prog X.w X.K X.mg X.base (L2.CX X.prog X.w) k C "__setitem__" sp) (hq : PySem.W.noSeq X.K C = true) (hr : Room j X.A) (hk : k ≤ j) (tk : Takes X W) (ho : PE X o to) (hi : PE X i ti)
    (ha : ∀ v, assign (.Subscript o i pos) X.env v = (do
      let ov ← holding [v] (eval o X.env)
      let iv ← holding [v, ov] (eval i X.env)
      standAt pos
      holding [v, ov, iv] (setItem ov iv v)
      release [v, ov, iv] []) := by intro _; rfl) : PG X (.Subscript o i pos) (gSetX C sp (WE W) to ti) := by
  obtain ⟨g, has, fn, _, F⟩ := D.ex
  refine ⟨fun pins s σ H v u Q I r h => ?_⟩
  rw [ha]
  refine wpAny_bind (wpAny_holding (thn (ho.run pins s σ H _ I h) fun ov s1 ⟨x, H1, I1, r1, q1⟩ => ?_))
  refine wpAny_bind (wpAny_holding (thn (hi.run pins s1 σ H1 _ I1 q1) fun iv s2 ⟨y, H2, I2, r2, p, dx, fs, ex, hp, q2⟩ => ?_))
  subst ex
  cases r1
  rcases StX.insC_at I2 (.inr ⟨dx, fs, hp⟩) with ⟨ox, od, J, _⟩
  rcases I2.fr with ⟨m, hF⟩
  have run := F X.A X.stack s2 H2 [Value.ref p, iv, u] [V.ref p, y, v] _ (WE W σ) (hr.mono hk) I2.env0 (.cons (show RelV (V.ref p) (Value.ref p) from rfl) (.cons r2 (.cons r .nil))) q2
  refine wpAny_bind (wpAny_standAt (wpAny_bind (wpAny_holding (PySem.W.ksp_setItem hF I2.ok.mod.kin J hq has fn (wpAny_call (codeAny_mono run fun rr s' z => ?_))))))
  match rr, z with
  | .error er, z => exact passAt tk σ pins H2 s2 er s' I2 z
  | .ok (.ret w), z =>
    obtain ⟨y2, H3, I3, _, q3⟩ := I2.after z
    exact wpAny_release ⟨σ, H3, I3, q3⟩
  | .ok .next, z => exact False.elim z
  | .ok .brk, z => exact False.elim z
  | .ok .cont, z => exact False.elim z
end
end IC
namespace IC
open PySem PySem.Spec PyProof.Rows L2
/-- sorted(a dict whose keys are texts), however many -/
theorem cr_sortDS {X : Cx} (calm : X.calm = true) : CallR X (.builtin "sorted") (fun vs H Q => ∃ (a : Addr) (kvs : List (Key × V)) (xs : List Str), vs = [.ref a] ∧ Rd H a (.dK kvs) ∧ kvs.map (·.1) = xs.map Sum.inr ∧
    ∀ (ys : List Str) (p : Addr), ys.Perm xs → sortedS ys = true → H p = none → Q (.ref p) (upd H p (.lst (ys.map V.str)))) := by
  rintro pins s σ H vs us Q I rel ⟨a, kvs, xs, rfl, rd, hks, q⟩
  rcases vals1 rel with ⟨u, rfl, ru⟩
  cases ru
  rcases dk_rd I.hok rd with ⟨z, lo, es, rl, dd⟩
  rcases dd.dictAt with ⟨ep, hat⟩
  have keys : es.map (·.1) = xs.map Sum.inr := rl.keys.symm.trans hks
  have hl : es.length = xs.length := by
    have e := congrArg List.length keys
    rw [List.length_map, List.length_map] at e
    exact e
  have small : es.length ≤ sizeLine := by rw [← rl.length]; exact z
  refine Calls.call_function_entry kind_sorted plain_sorted entry_sorted (args_sorted1 _) ?_
  unfold Builtin.«sorted»
  refine wpAny_bind (m := checkCount "sorted" 1 1 _) (wpAny_pure ?_)
  refine wpAny_bind (PySem.W.kdu_collect (A := X.A.in1) (PySem.W.kdl_dict (knd := mixKind X.prog X.w) (kvs := es) (ep := ep) lo) (I.ok.hd calm) hat small fun h' tk acc kept got => ?_)
  have hal : acc.toList.length = xs.length := by rw [Array.length_toList, got.1, hl]
  have are : StrsAre acc.toList xs := strs_at hal fun j v e => by
    rcases got.2 j v (by rw [← Array.getElem?_toList]; exact e) with ⟨k, x, e1, e2⟩
    have e3 : (es.map (·.1))[j]? = some k := by rw [List.getElem?_map, e1]; all_goals rfl
    rw [keys, List.getElem?_map] at e3
    cases e4 : xs[j]? with
    | none => rw [e4] at e3; cases e3
    | some y =>
      rw [e4] at e3
      cases e3
      rcases Value.isStrOf_shape (x := y) (v := v) e2 with ⟨t, ev⟩
      exact ⟨y, t, rfl, ev⟩
  have len : acc.toList.length ≤ sizeLine := by rw [hal, ← hl]; exact small
  have J1 : Inv X pins σ H { s with heap := h', toks := tk } := I.kept kept
  refine wpAny_bind (wpAny_newList ?_ len)
  have at1 : (h'.push (seqObj "list" acc.toList.toArray 0)).get? h'.objs.size = some (seqObj "list" acc.toList.toArray 0) := Heap.get?_push_size _ rfl
  show wpAny _ _ _ _ _ { s with heap := h'.push (seqObj "list" acc.toList.toArray 0), toks := tk }
  refine wpAny_bind (wpAny_holding (wpAny_call_entry slot_list_sort ⟨_, at1, rfl⟩ entry_list_sort
    (list_sort_treeKAny strKind_oneLt (s := { s with heap := h'.push (seqObj "list" acc.toList.toArray 0), toks := tk }) at1 are.keysOf (fun v1 v2 rest e => keyKind_strs (by rw [← e]; exact are)) len fun st hp hs => ⟨_, rfl, ?_⟩) (args_list_sort _)))
  rcases sorted_out_str are hp hs with ⟨ys, g1, g2, g3⟩
  rcases sortedHeap_at (vs := acc.toList) (out := (arrOf st).map (·.2)) at1 with ⟨c, hc⟩
  have lenY : (ys.map V.str).length ≤ sizeLine := by
    rw [List.length_map, g2.length_eq, ← hal]
    exact len
  refine wpAny_pure ⟨_, rfl, .ref h'.objs.size, upd H h'.objs.size (.lst (ys.map V.str)), J1.laid (t' := tk) (fun b u e => ?_) (Nat.le_refl _) ⟨lenY, ((arrOf st).map (·.2)).toList, c, vals_of_strs g1, by rw [Array.toArray_toList]; exact hc⟩, rfl, q ys _ g2 g3 (J1.hok.fresh (Nat.le_refl _))⟩
  have lt : b < h'.objs.size := Heap.lt_size e
  rw [sortedHeap_old (Nat.ne_of_lt lt) (by rw [size_push']; exact Nat.lt_succ_of_lt lt)]
  exact Heap.get?_push_of_some _ e
end IC
namespace IC
open PySem L2 TL
/-! ### a database in which is written: one transaction at most, never doomed -/
structure Wr where
  a : Addr
  r : Str
  v : V
abbrev wrf (r : Str) (v h f : V) : List (Str × V) := [("record", .str r), ("value", v), ("holder", h), ("fate", f)]
/-- the write x, held by h -/
def WAt (CW : Addr) (H : Hp) (h : V) (x : Wr) : Prop := ∃ (dx : Addr) (f : Str), H x.a = some (.ins CW dx (wrf x.r x.v h (.str f)))
def kd (l : List Wr) : List (Key × V) := l.map fun x => (.inr x.r, .ref x.a)
def hd3 (l : List (Str × Addr)) : List (Key × V) := l.map fun x => (.inr x.1, .ref x.2)
def refs (l : List Wr) : List V := l.map fun x => .ref x.a
def ofR (l : List Wr) (r : Str) : List Wr := l.filter fun x => decide (x.r = r)
def findW (l : List Wr) (r : Str) : Option Wr := l.find? fun x => decide (x.r = r)
def putW (l : List Wr) (x : Wr) : List Wr := if (l.any fun y => decide (y.r = x.r)) = true then l.map (fun y => if y.r = x.r then x else y) else l ++ [x]
theorem ofR_app (l m : List Wr) (r : Str) : ofR (l ++ m) r = ofR l r ++ ofR m r := List.filter_append ..
theorem valV_kd (l : List Wr) (r : Str) : valV (kd l) (.inr r) = (findW l r).map fun x => .ref x.a := by
  induction l with
  | nil => rfl
  | cons x l ih =>
    show valV ((.inr x.r, .ref x.a) :: kd l) (.inr r) = _
    by_cases e : x.r = r
    · rw [valV_pos (by rw [e]), findW, List.find?_cons, decide_eq_true e]
      rfl
    · rw [valV_neg (fun z => e (Sum.inr.inj z)), ih, findW, findW, List.find?_cons, decide_eq_false e]
theorem valV_hd3 (l : List (Str × Addr)) (r : Str) : valV (hd3 l) (.inr r) = (l.find? fun z => decide (z.1 = r)).map fun z => .ref z.2 := by
  induction l with
  | nil => rfl
  | cons x l ih =>
    show valV ((.inr x.1, .ref x.2) :: hd3 l) (.inr r) = _
    by_cases e : x.1 = r
    · rw [valV_pos (by rw [e]), List.find?_cons, decide_eq_true e]
      rfl
    · rw [valV_neg (fun z => e (Sum.inr.inj z)), ih, List.find?_cons, decide_eq_false e]
theorem putK_kd (l : List Wr) (x : Wr) : putK (kd l) (.inr x.r) (.ref x.a) = kd (putW l x) := by
  have e1 : ((kd l).any fun kv => decide (kv.1 = (Sum.inr x.r : Key))) = (l.any fun y => decide (y.r = x.r)) := by
    unfold kd
    rw [List.any_map]
    congr 1
    funext y
    show decide ((Sum.inr y.r : Key) = Sum.inr x.r) = decide (y.r = x.r)
    rw [decide_eq_decide]
    exact ⟨fun z => Sum.inr.inj z, fun z => by rw [z]⟩
  unfold putK putW
  rw [e1]
  split
  · unfold kd
    rw [List.map_map, List.map_map]
    apply List.map_congr_left
    intro y _
    by_cases e : y.r = x.r
    · simp [e]
    · have e2 : ¬ (Sum.inr y.r : Key) = Sum.inr x.r := fun z => e (Sum.inr.inj z)
      simp [e, e2]
  · unfold kd
    rw [List.map_append]
    rfl
theorem dropK_hd3 (l : List (Str × Addr)) (r : Str) : dropK (hd3 l) (.inr r) = hd3 (l.filter fun z => decide (z.1 ≠ r)) := by
  unfold dropK hd3
  rw [List.filter_map]
  congr 1
  apply List.filter_congr
  intro z _
  show decide ((Sum.inr z.1 : Key) ≠ Sum.inr r) = decide (z.1 ≠ r)
  rw [decide_eq_decide]
  exact ⟨fun h e => h (by rw [e]), fun h e => h (Sum.inr.inj e)⟩
theorem len_kd (l : List Wr) : (kd l).length = l.length := List.length_map ..
theorem len_hd3 (l : List (Str × Addr)) : (hd3 l).length = l.length := List.length_map ..
theorem len_putW (l : List Wr) (x : Wr) : (putW l x).length ≤ l.length + 1 := by
  unfold putW
  split
  · rw [List.length_map]
    exact Nat.le_succ _
  · rw [List.length_append]
    exact Nat.le_refl _
theorem mem_putW {l : List Wr} {x y : Wr} (h : y ∈ putW l x) : y ∈ l ∨ y = x := by
  unfold putW at h
  split at h
  · rcases List.mem_map.mp h with ⟨z, hz, e⟩
    split at e
    · exact .inr e.symm
    · exact .inl (e ▸ hz)
  · rcases List.mem_append.mp h with h | h
    · exact .inl h
    · exact .inr (List.mem_singleton.mp h)
theorem find_putW (l : List Wr) (x : Wr) (r : Str) : findW (putW l x) r = if x.r = r then some x else findW l r := by
  unfold putW
  split
  · rename_i h
    unfold findW
    induction l with
    | nil => cases h
    | cons y l ih =>
      rw [List.map_cons, List.find?_cons, List.find?_cons]
      by_cases e : y.r = x.r
      · rw [if_pos e]
        by_cases e2 : x.r = r
        · rw [if_pos e2, decide_eq_true e2]
        · rw [if_neg e2, decide_eq_false e2, decide_eq_false (fun z => e2 (e ▸ z))]
          dsimp only
          by_cases hl : (l.any fun y => decide (y.r = x.r)) = true
          · rw [ih hl, if_neg e2]
          · congr 1
            have : l.map (fun y => if y.r = x.r then x else y) = l := by
              conv => rhs; rw [← List.map_id l]
              apply List.map_congr_left
              intro z hz
              rw [if_neg]
              · rfl
              · intro q
                exact hl (List.any_eq_true.mpr ⟨z, hz, decide_eq_true q⟩)
            rw [this]
      · have hl : (l.any fun y => decide (y.r = x.r)) = true := by
          rw [List.any_cons, decide_eq_false e, Bool.false_or] at h
          exact h
        rw [if_neg e]
        by_cases e2 : y.r = r
        · rw [decide_eq_true e2, if_neg (fun z => e (e2.trans z.symm))]
        · rw [decide_eq_false e2]
          exact ih hl
  · rename_i h
    unfold findW
    rw [List.find?_append]
    by_cases e : x.r = r
    · rw [if_pos e]
      have : (l.find? fun x => decide (x.r = r)) = none := by
        rw [List.find?_eq_none]
        intro z hz q
        exact h (List.any_eq_true.mpr ⟨z, hz, decide_eq_true ((of_decide_eq_true q).trans e.symm)⟩)
      rw [this, List.find?_cons, decide_eq_true e]
      rfl
    · rw [if_neg e, List.find?_cons, decide_eq_false e]
      simp
theorem find_fold (r : Str) : ∀ (own kept : List Wr), findW (own.foldl putW kept) r = ((ofR own r).getLast?).or (findW kept r)
  | [], kept => rfl
  | x :: own, kept => by
    rw [List.foldl_cons, find_fold r own (putW kept x), find_putW]
    show _ = ((List.filter (fun x => decide (x.r = r)) (x :: own)).getLast?).or _
    rw [List.filter_cons]
    by_cases e : x.r = r
    · rw [if_pos e, if_pos (decide_eq_true e)]
      show _ = ((x :: ofR own r).getLast?).or _
      rw [List.getLast?_cons]
      cases (ofR own r).getLast? <;> rfl
    · rw [if_neg e, if_neg (by rw [decide_eq_false e]; exact Bool.false_ne_true)]
      rfl
/-! ### kinds: what is of two kinds stands at two places -/
def kin : HO → Nat
  | .lst _ => 1
  | .tup _ => 2
  | .dK _ => 3
  | .ins _ _ fs => 10 + fs.length
  | _ => 0
theorem ne_kin {H : Hp} {a b : Addr} {o u : HO} (h1 : H a = some o) (h2 : H b = some u) (n : kin o ≠ kin u) : a ≠ b := fun e => by
  rw [e, h2] at h1
  injection h1 with h1
  rw [h1] at n
  exact n rfl
structure D3 (c : Cs) (CW : Addr) (H : Hp) (F : Addr → Prop) (d : Addr) (p : DbP) (pv : V) (bl : List Addr) (made : List V) (held : List (Str × Addr)) (kept : List Wr) : Prop where
  hd : H d = some (.ins c.D p.dx (dbf pv p.fl p.b p.m p.h p.k))
  hb : H p.b = some (.lst (bl.map V.ref))
  hm : H p.m = some (.lst made)
  hh : H p.h = some (.dK (hd3 held))
  hk : H p.k = some (.dK (kd kept))
  hw : ∀ x ∈ kept, ∃ h, WAt CW H h x
  nbm : p.b ≠ p.m
  nhk : p.h ≠ p.k
  fd : F d
  fb : F p.b
  fm : F p.m
  fh : F p.h
  fk : F p.k
  fw : ∀ x ∈ kept, F x.a
section
variable {c : Cs} {CW : Addr} {H H' : Hp} {F F' : Addr → Prop} {d a : Addr} {p : DbP} {pv : V} {bl : List Addr} {made : List V} {held : List (Str × Addr)} {kept : List Wr}
theorem WAt.mv {h : V} {x : Wr} (w : WAt CW H h x) (k : ∀ o, H x.a = some o → H' x.a = some o) : WAt CW H' h x := by
  rcases w with ⟨dx, f, e⟩
  exact ⟨dx, f, k _ e⟩
theorem D3.mv (h : D3 c CW H F d p pv bl made held kept) (k : ∀ x o, F x → H x = some o → H' x = some o) (s : ∀ x, F x → F' x) : D3 c CW H' F' d p pv bl made held kept :=
  ⟨k _ _ h.fd h.hd, k _ _ h.fb h.hb, k _ _ h.fm h.hm, k _ _ h.fh h.hh, k _ _ h.fk h.hk, fun x hx => let ⟨v, w⟩ := h.hw x hx; ⟨v, w.mv fun o e => k _ _ (h.fw x hx) e⟩, h.nbm, h.nhk, s _ h.fd, s _ h.fb, s _ h.fm, s _ h.fh, s _ h.fk, fun x hx => s _ (h.fw x hx)⟩
theorem D3.off {o : HO} (h : D3 c CW H F d p pv bl made held kept) (n1 : d ≠ a) (n2 : p.b ≠ a) (n3 : p.m ≠ a) (n4 : p.h ≠ a) (n5 : p.k ≠ a) (n6 : ∀ x ∈ kept, x.a ≠ a) : D3 c CW (upd H a o) F d p pv bl made held kept :=
  ⟨by rw [upd_ne n1]; exact h.hd, by rw [upd_ne n2]; exact h.hb, by rw [upd_ne n3]; exact h.hm, by rw [upd_ne n4]; exact h.hh, by rw [upd_ne n5]; exact h.hk, fun x hx => let ⟨v, w⟩ := h.hw x hx; ⟨v, w.mv fun o e => by rw [upd_ne (n6 x hx)]; exact e⟩, h.nbm, h.nhk, h.fd, h.fb, h.fm, h.fh, h.fk, h.fw⟩
/-- at a free place -/
theorem D3.new {o : HO} (h : D3 c CW H F d p pv bl made held kept) (n : H a = none) : D3 c CW (upd H a o) F d p pv bl made held kept :=
  h.mv (fun x u _ e => by rw [upd_ne (ne_of_none e n)]; exact e) fun _ z => z
/-- at a list that is none of the database's -/
theorem D3.offL {o : HO} {xs : List V} (h : D3 c CW H F d p pv bl made held kept) (ha : H a = some (.lst xs)) (n2 : p.b ≠ a) (n3 : p.m ≠ a) : D3 c CW (upd H a o) F d p pv bl made held kept :=
  h.off (ne_kin h.hd ha (by simp [kin])) n2 n3 (ne_kin h.hh ha (by simp [kin])) (ne_kin h.hk ha (by simp [kin])) fun x hx => by
    rcases h.hw x hx with ⟨v, dx, f, e⟩
    exact ne_kin e ha (by simp [kin])
/-- at a transaction -/
theorem D3.offT {o : HO} {dx : Addr} {x y z : V} (h : D3 c CW H F d p pv bl made held kept) {C : Addr} (ha : H a = some (.ins C dx [("own", x), ("starts", y), ("first", z)])) : D3 c CW (upd H a o) F d p pv bl made held kept :=
  h.off (ne_kin h.hd ha (by show 16 ≠ 13; decide)) (ne_kin h.hb ha (by show 1 ≠ 13; decide)) (ne_kin h.hm ha (by show 1 ≠ 13; decide)) (ne_kin h.hh ha (by show 3 ≠ 13; decide)) (ne_kin h.hk ha (by show 3 ≠ 13; decide)) fun x hx => by
    rcases h.hw x hx with ⟨v, dx, f, e⟩
    exact ne_kin e ha (by show 14 ≠ 13; decide)
/-- a write's fate -/
theorem D3.fate {r f : Str} {v hv : V} {dx : Addr} {f' : Str} (h : D3 c CW H F d p pv bl made held kept) (ha : H a = some (.ins CW dx (wrf r v hv (.str f)))) : D3 c CW (upd H a (.ins CW dx (wrf r v hv (.str f')))) F d p pv bl made held kept := by
  refine ⟨by rw [upd_ne (ne_kin h.hd ha (by show 16 ≠ 14; decide))]; exact h.hd, by rw [upd_ne (ne_kin h.hb ha (by show 1 ≠ 14; decide))]; exact h.hb, by rw [upd_ne (ne_kin h.hm ha (by show 1 ≠ 14; decide))]; exact h.hm,
    by rw [upd_ne (ne_kin h.hh ha (by show 3 ≠ 14; decide))]; exact h.hh, by rw [upd_ne (ne_kin h.hk ha (by show 3 ≠ 14; decide))]; exact h.hk, fun x hx => ?_, h.nbm, h.nhk, h.fd, h.fb, h.fm, h.fh, h.fk, h.fw⟩
  rcases h.hw x hx with ⟨u, dx2, f2, e⟩
  by_cases q : x.a = a
  · rw [q, ha] at e
    injection e with e
    injection e with _ e1 e2
    simp only [List.cons.injEq, Prod.mk.injEq, V.str.injEq, true_and, and_true] at e2
    rcases e2 with ⟨e3, e4, e5, e6⟩
    exact ⟨hv, dx, f', by rw [q, upd_same, e3, e4]⟩
  · exact ⟨u, dx2, f2, by rw [upd_ne q]; exact e⟩
theorem D3.setPv (h : D3 c CW H F d p pv bl made held kept) (uv : V) : D3 c CW (upd H d (.ins c.D p.dx (dbf uv p.fl p.b p.m p.h p.k))) F d p uv bl made held kept :=
  ⟨upd_same, by rw [upd_ne (ne_kin h.hb h.hd (by simp [kin]))]; exact h.hb, by rw [upd_ne (ne_kin h.hm h.hd (by simp [kin]))]; exact h.hm, by rw [upd_ne (ne_kin h.hh h.hd (by simp [kin]))]; exact h.hh, by rw [upd_ne (ne_kin h.hk h.hd (by simp [kin]))]; exact h.hk,
    fun x hx => let ⟨v, w⟩ := h.hw x hx; ⟨v, w.mv fun o e => by
      rcases w with ⟨dx, f, e2⟩
      rw [upd_ne (ne_kin e2 h.hd (by show 14 ≠ 16; decide))]
      exact e⟩, h.nbm, h.nhk, h.fd, h.fb, h.fm, h.fh, h.fk, h.fw⟩
theorem D3.setBl (h : D3 c CW H F d p pv bl made held kept) (l : List Addr) : D3 c CW (upd H p.b (.lst (l.map V.ref))) F d p pv l made held kept :=
  ⟨by rw [upd_ne (ne_kin h.hd h.hb (by simp [kin]))]; exact h.hd, upd_same, by rw [upd_ne h.nbm.symm]; exact h.hm, by rw [upd_ne (ne_kin h.hh h.hb (by simp [kin]))]; exact h.hh, by rw [upd_ne (ne_kin h.hk h.hb (by simp [kin]))]; exact h.hk,
    fun x hx => let ⟨v, w⟩ := h.hw x hx; ⟨v, w.mv fun o e => by
      rcases w with ⟨dx, f, e2⟩
      rw [upd_ne (ne_kin e2 h.hb (by show 14 ≠ 1; decide))]
      exact e⟩, h.nbm, h.nhk, h.fd, h.fb, h.fm, h.fh, h.fk, h.fw⟩
theorem D3.setMade (h : D3 c CW H F d p pv bl made held kept) (l : List V) : D3 c CW (upd H p.m (.lst l)) F d p pv bl l held kept :=
  ⟨by rw [upd_ne (ne_kin h.hd h.hm (by simp [kin]))]; exact h.hd, by rw [upd_ne h.nbm]; exact h.hb, upd_same, by rw [upd_ne (ne_kin h.hh h.hm (by simp [kin]))]; exact h.hh, by rw [upd_ne (ne_kin h.hk h.hm (by simp [kin]))]; exact h.hk,
    fun x hx => let ⟨v, w⟩ := h.hw x hx; ⟨v, w.mv fun o e => by
      rcases w with ⟨dx, f, e2⟩
      rw [upd_ne (ne_kin e2 h.hm (by show 14 ≠ 1; decide))]
      exact e⟩, h.nbm, h.nhk, h.fd, h.fb, h.fm, h.fh, h.fk, h.fw⟩
theorem D3.setHeld (h : D3 c CW H F d p pv bl made held kept) (l : List (Str × Addr)) : D3 c CW (upd H p.h (.dK (hd3 l))) F d p pv bl made l kept :=
  ⟨by rw [upd_ne (ne_kin h.hd h.hh (by simp [kin]))]; exact h.hd, by rw [upd_ne (ne_kin h.hb h.hh (by simp [kin]))]; exact h.hb, by rw [upd_ne (ne_kin h.hm h.hh (by simp [kin]))]; exact h.hm, upd_same, by rw [upd_ne h.nhk.symm]; exact h.hk,
    fun x hx => let ⟨v, w⟩ := h.hw x hx; ⟨v, w.mv fun o e => by
      rcases w with ⟨dx, f, e2⟩
      rw [upd_ne (ne_kin e2 h.hh (by show 14 ≠ 3; decide))]
      exact e⟩, h.nbm, h.nhk, h.fd, h.fb, h.fm, h.fh, h.fk, h.fw⟩
theorem D3.setKept (h : D3 c CW H F d p pv bl made held kept) {x : Wr} {hv : V} (w : WAt CW H hv x) (fx : F x.a) : D3 c CW (upd H p.k (.dK (putK (kd kept) (.inr x.r) (.ref x.a)))) F d p pv bl made held (putW kept x) := by
  have go : ∀ y u, WAt CW H u y → WAt CW (upd H p.k (.dK (putK (kd kept) (.inr x.r) (.ref x.a)))) u y := fun y u w => w.mv fun o e => by
    rcases w with ⟨dx, f, e2⟩
    rw [upd_ne (ne_kin e2 h.hk (by show 14 ≠ 3; decide))]
    exact e
  refine ⟨by rw [upd_ne (ne_kin h.hd h.hk (by simp [kin]))]; exact h.hd, by rw [upd_ne (ne_kin h.hb h.hk (by simp [kin]))]; exact h.hb, by rw [upd_ne (ne_kin h.hm h.hk (by simp [kin]))]; exact h.hm, by rw [upd_ne h.nhk]; exact h.hh, by rw [upd_same, putK_kd],
    fun y hy => ?_, h.nbm, h.nhk, h.fd, h.fb, h.fm, h.fh, h.fk, fun y hy => ?_⟩
  · rcases mem_putW hy with q | q
    · exact let ⟨u, w⟩ := h.hw y q; ⟨u, go _ _ w⟩
    · exact ⟨hv, go _ _ (q ▸ w)⟩
  · rcases mem_putW hy with q | q
    · exact h.fw y q
    · exact q ▸ fx
end
end IC
namespace IC
open PySem L2 TL
/-! ### frames by what a database owns -/
structure Fr (F F' : Addr → Prop) (H H' : Hp) : Prop where
  k : ∀ x o, H x = some o → ¬ F x → H' x = some o
  s : ∀ x, F x → F' x
  n : ∀ x, F' x → F x ∨ H x = none
section
variable {F F1 F2 : Addr → Prop} {H H1 H2 : Hp} {a : Addr} {o : HO}
theorem Fr.refl (F : Addr → Prop) (H : Hp) : Fr F F H H := ⟨fun _ _ e _ => e, fun _ h => h, fun _ h => .inl h⟩
theorem Fr.trans (a : Fr F F1 H H1) (b : Fr F1 F2 H1 H2) : Fr F F2 H H2 := by
  refine ⟨fun x o e n => b.k x o (a.k x o e n) fun f => ?_, fun x f => b.s x (a.s x f), fun x f => ?_⟩
  · rcases a.n x f with q | q
    · exact n q
    · rw [q] at e
      cases e
  · rcases b.n x f with q | q
    · exact a.n x q
    · by_cases f0 : F x
      · exact .inl f0
      · cases e : H x with
        | none => exact .inr rfl
        | some u =>
          rw [a.k x u e f0] at q
          cases q
theorem Fr.new (n : H a = none) : Fr F F H (upd H a o) := ⟨fun x u e _ => by rw [upd_ne (ne_of_none e n)]; exact e, fun _ h => h, fun _ h => .inl h⟩
theorem Fr.add (n : H a = none) : Fr F (fun x => F x ∨ x = a) H (upd H a o) := ⟨fun x u e _ => by rw [upd_ne (ne_of_none e n)]; exact e, fun _ h => .inl h, fun x h => h.imp id fun e => by rw [e]; exact n⟩
theorem Fr.at_ (f : F a) : Fr F F H (upd H a o) := ⟨fun x u e n => by
  have q : x ≠ a := fun z => n (z ▸ f)
  rw [upd_ne q]
  exact e, fun _ h => h, fun _ h => .inl h⟩
theorem Fr.same (s : Same H H1) : Fr F F H H1 := ⟨fun x u e _ => s x u e, fun _ h => h, fun _ h => .inl h⟩
end
def spWr (CW : Addr) : Sp := fun vs H Q _ => ∃ (a dx : Addr) (r : Str) (v h : V), vs = [.ref a, .str r, v, h] ∧ H a = some (.ins CW dx []) ∧ Q .non (upd H a (.ins CW dx (wrf r v h (.str "open"))))
abbrev fsR (v : V) : List (Str × V) := [("record", v)]
abbrev fsB (v : V) : List (Str × V) := [("word", v)]
abbrev fsWt (v : V) : List (Str × V) := [("word", .str "waits"), ("record", v)]
/-- no word: another kind of thing, or a text that is none -/
def NoW (K : PySem.W.Frag) (H : Hp) (v : V) : Prop := (∃ z : Str, v = .str z ∧ (tl z).length ≤ 1000 ∧ wB z = false) ∨ Oth K H v
theorem NoW.mv {K : PySem.W.Frag} {H H' : Hp} {v : V} (h : NoW K H v) (s : Same H H') : NoW K H' v := by
  rcases h with h | h
  · exact .inl h
  · exact .inr (h.mv s)
abbrev fsRf : List (Str × V) := [("word", .str "refused")]
abbrev fsBM (v : V) : List (Str × V) := [("mode", v)]
abbrev fsTM (v : V) : List (Str × V) := [("what", v)]
end IC
namespace IC
open PySem L2 TL
/-! ### a database in general: levels, suspended transactions, dooms, undoing (begun: the pure side) -/
/-- a level: its first word, its open writes in order -/
structure Lv where
  why : Option Str
  ws : List Wr
/-- a transaction's levels, the top one first; [] where there is none -/
abbrev En := List Lv
inductive So where
  | plain : So
  | base : So
  | level : So
  | outside : So
  | joined : So
/-- the present entry first, the suspended ones behind it; the blocks' sorts, the innermost first -/
structure Mo where
  stack : List En
  sorts : List So
def En.own (e : En) : List Wr := e.reverse.flatMap Lv.ws
/-- where the levels start, the base first -/
def En.starts : En → List Nat
  | [] => []
  | _ :: r => En.starts r ++ [(En.own r).length]
def En.why : En → Option Str
  | [] => none
  | l :: _ => l.why
def Mo.top (m : Mo) : En := m.stack.headD []
inductive Er where
  | miss : Er
  | pres : Er
  | doom : Str → Er
/-- entering a block in a mode -/
def enterM (z : Str) (m : Mo) : Except Er Mo :=
  match m.stack with
  | [] => .ok m
  | [] :: r =>
    if decide (z = "must") = true then .error .miss
    else if (decide (z = "either") || decide (z = "never") || decide (z = "outside")) = true then .ok ⟨[] :: r, .plain :: m.sorts⟩
    else .ok ⟨[⟨none, []⟩] :: [] :: r, .base :: m.sorts⟩
  | (l :: e) :: r =>
    if (decide (z = "never") || decide (z = "alone")) = true then .error .pres
    else if (decide (z = "join") || decide (z = "must") || decide (z = "either")) = true then .ok ⟨(l :: e) :: r, .joined :: m.sorts⟩
    else if decide (z = "outside") = true then .ok ⟨[] :: (l :: e) :: r, .outside :: m.sorts⟩
    else if decide (z = "apart") = true then .ok ⟨[⟨none, []⟩] :: (l :: e) :: r, .base :: m.sorts⟩
    else match l.why with
      | some w => .error (.doom w)
      | none => .ok ⟨(⟨none, []⟩ :: l :: e) :: r, .level :: m.sorts⟩
def doomTop (w : Str) : En → En
  | [] => []
  | l :: e => (match l.why with
    | some _ => l
    | none => ⟨some w, l.ws⟩) :: e
inductive Out where
  | fine : Out
  | doomed : Str → Out
  | refused : Out
/-- leaving a block: how it goes out, the model behind it, the writes that are kept, those that are undone -/
def leaveM (err : Option Str) (goes : Bool) (m : Mo) : Out × Mo × List Wr × List Wr :=
  match m.sorts, m.stack with
  | .joined :: s, e :: r => (.fine, ⟨(match err with
      | none => e
      | some w => doomTop w e) :: r, s⟩, [], [])
  | .outside :: s, _ :: r => (.fine, ⟨r, s⟩, [], [])
  | .level :: s, (l :: l2 :: e) :: r =>
    match err, l.why with
    | some _, _ => (.fine, ⟨(l2 :: e) :: r, s⟩, [], l.ws)
    | none, some w => (.doomed w, ⟨(l2 :: e) :: r, s⟩, [], l.ws)
    | none, none => (.fine, ⟨(⟨l2.why, l2.ws ++ l.ws⟩ :: e) :: r, s⟩, [], [])
  | .base :: s, [l] :: r =>
    match err, l.why with
    | some _, _ => (.fine, ⟨r, s⟩, [], l.ws)
    | none, some w => (.doomed w, ⟨r, s⟩, [], l.ws)
    | none, none => if goes = true then (.fine, ⟨r, s⟩, l.ws, []) else (.refused, ⟨r, s⟩, [], l.ws)
  | .plain :: s, st => (.fine, ⟨st, s⟩, [], [])
  | _, _ => (.fine, m, [], [])
/-- what the blocks' tuples hold, by the addresses of the entries -/
def blkOf : List So → List V → List (Str × V)
  | [], _ => []
  | .plain :: s, es => ("nothing", .non) :: blkOf s es
  | .joined :: s, es => ("dooms", es.headD .non) :: blkOf s es
  | .level :: s, es => ("ends", es.headD .non) :: blkOf s es
  | .base :: s, es => ("ends", es.tail.headD .non) :: blkOf s es.tail
  | .outside :: s, es => ("nothing", es.tail.headD .non) :: blkOf s es.tail
theorem own_cons (l : Lv) (e : En) : En.own (l :: e) = En.own e ++ l.ws := by
  unfold En.own
  rw [List.reverse_cons, List.flatMap_append]
  simp
/-- a level that ends well leaves the transaction's writes as they are -/
theorem own_merge (l l2 : Lv) (e : En) : En.own (⟨l2.why, l2.ws ++ l.ws⟩ :: e) = En.own (l :: l2 :: e) := by
  rw [own_cons, own_cons, own_cons, List.append_assoc]
theorem starts_len : ∀ e : En, e.starts.length = e.length
  | [] => rfl
  | l :: e => by
    show (En.starts e ++ [_]).length = e.length + 1
    rw [List.length_append, starts_len e]
    rfl
/-- the last start cuts the top level's writes off -/
theorem own_top (l : Lv) (e : En) : (En.own (l :: e)).take (En.own e).length = En.own e ∧ (En.own (l :: e)).drop (En.own e).length = l.ws := by
  rw [own_cons]
  exact ⟨List.take_left, List.drop_left⟩
end IC
namespace IC
open PySem PySem.W PySem.Calls PyProof.Rows PySem.Spec
/-! ### == of two plain instances of a class, and with None -/
section
variable {prog : Program} {w : World} {A : Around} {E : Value → Shared → Prop} {s : Shared} {K : Frag} {x y C : Addr} {ox oy : Obj} {odx ody : Option Obj}
theorem try_apart {Q : Option Value → Shared → Prop} (n : x ≠ y) (X : K.In s.heap) (I : InstAt s.heap x ox C odx) (hx : s.heap.get? x = some ox) (hy : s.heap.get? y = some oy) (nt : ox.cls ≠ .type "tuple") (hm : mroIn K C (.type "object") = some true) (hs : findIn K (.ref C) "__eq__" = some (some (.builtin "object.__eq__"))) (h : Q none s) :
    wpAny (model prog w) A (tryCompare (.ref x) "__eq__" (.ref y)) Q E s := by
  unfold tryCompare
  exact wpAny_bind (HN.ifBound_objEq X I hs (wpAny_call (codeAny_call_builtin F.cmp_object.eq.plain F.cmpEntry_eq (check_slot F.cmpKind_eq F.cmpSplit_eq (I.type.andThen (looks_mroIn X hm)) (F.cmpArgs_eq _ _) (objEq_entry_other n hx hy nt (wpAny_pure h))))))
theorem own_eq_other {Q : Value → Shared → Prop} (n : x ≠ y) (hu : A.units < cLine) (X : K.In s.heap) (I : InstAt s.heap x ox C odx) (J : InstAt s.heap y oy C ody) (hx : s.heap.get? x = some ox) (hy : s.heap.get? y = some oy) (nx : ox.cls ≠ .type "tuple") (ny : oy.cls ≠ .type "tuple")
    (hm : mroIn K C (.type "object") = some true) (hs : findIn K (.ref C) "__eq__" = some (some (.builtin "object.__eq__"))) (h : Q (.bool false) s) : wpAny (model prog w) A (richCompare .Eq (.ref x) (.ref y)) Q E s := by
  simp only [richCompare, cmpInfo_Eq, oneThing_ref]
  refine wpAny_holding (wpAny_bind (wpAny_cRoomFor hu (wpAny_bind (I.type.here (wpAny_bind (J.type.here ?_))))))
  have eqC : (Value.ref C != Value.ref C) = false := by simp
  rw [eqC]
  simp only [Bool.false_eq_true, if_false]
  refine wpAny_bind (wpAny_pure ?_)
  simp only [Bool.false_eq_true, if_false]
  refine wpAny_bind (try_apart n X I hx hy nx hm hs ?_)
  refine wpAny_bind (try_apart n.symm X J hy hx ny hm hs ?_)
  exact wpAny_bind (wpAny_rule (wpAny_bind (wpAny_isSame_ref_other n hx hy nx (wpAny_pure h))))
end
end IC
namespace IC
open PySem L2 TL
section
variable {X : Cx}
def rEqPl (C : Addr) : R2 := fun x y H Q => ∃ (p dx : Addr) (fs : List (Str × V)), x = .ref p ∧ H p = some (.ins C dx fs) ∧ ((y = .non ∧ Q (.bl false) H) ∨ ∃ (q dy : Addr) (gs : List (Str × V)), y = .ref q ∧ H q = some (.ins C dy gs) ∧ Q (.bl (decide (p = q))) H)
theorem op_eqPl {C : Addr} (hm : PySem.W.mroIn X.K C (.type "object") = some true) (hs : PySem.W.findIn X.K (.ref C) "__eq__" = some (some (.builtin "object.__eq__"))) (hu : X.A.units < cLine) : OpR X (compareOp .Eq) (rEqPl C) := by
  rintro pins s σ H x y v u Q I rx ry ⟨p, dx, fs, rfl, hp, h⟩
  cases rx
  rcases StX.insC_at I (.inr ⟨dx, fs, hp⟩) with ⟨ox, od, J, _⟩
  have nt : ox.cls ≠ .type "tuple" := by rw [J.cls]; intro e; cases e
  rcases h with ⟨rfl, q⟩ | ⟨q, dy, gs, rfl, hq, k⟩
  · cases ry
    show wpAny (model X.prog X.w) X.A (richCompare .Eq (.ref p) .none) (EP X pins σ Q) X.xe s
    exact HN.rc_none hu I.kIn J hm hs _ _ _ _ ⟨.bl false, H, I, rfl, q⟩
  · cases ry
    rcases StX.insC_at I (.inr ⟨dy, gs, hq⟩) with ⟨oy, oe, J2, _⟩
    have nt2 : oy.cls ≠ .type "tuple" := by rw [J2.cls]; intro e; cases e
    show wpAny (model X.prog X.w) X.A (richCompare .Eq (.ref p) (.ref q)) (EP X pins σ Q) X.xe s
    by_cases e : p = q
    · subst e
      rw [decide_eq_true rfl] at k
      exact own_eq_self hu I.kIn J hm hs ⟨.bl true, H, I, rfl, k⟩
    · rw [decide_eq_false e] at k
      exact own_eq_other e hu I.kIn J J2 J.at_ J2.at_ nt nt2 hm hs ⟨.bl false, H, I, rfl, k⟩
end
end IC
namespace IC
open PySem L2 TL
/-! ### the general database on the heap -/
structure Tr where
  t : Addr
  q : TrP
  e : En
structure TrG (c : Cs) (CW : Addr) (H : Hp) (F : Addr → Prop) (p : DbP) (T : Tr) : Prop where
  ne : T.e ≠ []
  ht : H T.t = some (.ins c.T T.q.dx (trf T.q.o T.q.s (oV T.e.why)))
  ho : H T.q.o = some (.lst (refs T.e.own))
  hs : H T.q.s = some (.lst (T.e.starts.map fun n : Nat => V.int (n : Int)))
  hw : ∀ x ∈ T.e.own, WAt CW H (.ref T.t) x
  low : ∀ l ∈ T.e.tail, l.why = none
  nos : T.q.o ≠ T.q.s
  nob : T.q.o ≠ p.b
  nom : T.q.o ≠ p.m
  nsb : T.q.s ≠ p.b
  nsm : T.q.s ≠ p.m
  ft : F T.t
  fo : F T.q.o
  fs : F T.q.s
  fw : ∀ x ∈ T.e.own, F x.a
def Tr.Apart (T U : Tr) : Prop := T.t ≠ U.t ∧ T.q.o ≠ U.q.o ∧ T.q.o ≠ U.q.s ∧ T.q.s ≠ U.q.o ∧ T.q.s ≠ U.q.s ∧ ∀ x ∈ T.e.own, ∀ y ∈ U.e.own, x.r ≠ y.r ∧ x.a ≠ y.a
structure SG where
  d : Addr
  p : DbP
  bl : List Addr
  made : List V
  held : List (Str × Addr)
  kept : List Wr
  top : Option Tr
  sus : List (Option Tr)
  sorts : List So
def SG.ts (S : SG) : List Tr := S.top.toList ++ S.sus.filterMap id
def vT : Option Tr → V
  | none => .non
  | some T => .ref T.t
def eT : Option Tr → En
  | none => []
  | some T => T.e
def oT (o : Option Tr) : List Wr := (eT o).own
/-- the blocks' sorts and the entries fit -/
def Wf : List So → List En → Prop
  | [], st => st = [[]]
  | .plain :: s, [] :: r => Wf s ([] :: r)
  | .joined :: s, (l :: e) :: r => Wf s ((l :: e) :: r)
  | .level :: s, (_ :: l2 :: e) :: r => Wf s ((l2 :: e) :: r)
  | .base :: s, [_] :: r => Wf s r
  | .outside :: s, [] :: (l :: e) :: r => Wf s ((l :: e) :: r)
  | _, _ => False
/-- the blocks' tuples, the innermost first -/
def BkR (H : Hp) (F : Addr → Prop) : List Addr → List (Str × V) → Prop
  | [], [] => True
  | y :: l, z :: m => (H y = some (.tup [.str z.1, z.2]) ∧ F y) ∧ BkR H F l m
  | _, _ => False
theorem BkR.mv {H H' : Hp} {F F' : Addr → Prop} (k : ∀ x xs, F x → H x = some (.tup xs) → H' x = some (.tup xs)) (s : ∀ x, F x → F' x) : ∀ {l : List Addr} {m : List (Str × V)}, BkR H F l m → BkR H' F' l m
  | [], [], _ => trivial
  | [], _ :: _, h => h.elim
  | _ :: _, [], h => h.elim
  | _ :: _, _ :: _, h => ⟨⟨k _ _ h.1.2 h.1.1, s _ h.1.2⟩, BkR.mv k s h.2⟩
structure DbG (c : Cs) (CW : Addr) (H : Hp) (F : Addr → Prop) (S : SG) : Prop where
  db : D3 c CW H F S.d S.p (vT S.top) S.bl S.made S.held S.kept
  tr : ∀ T ∈ S.ts, TrG c CW H F S.p T
  hl : ∀ T ∈ S.ts, ∀ z ∈ S.held, ofR T.e.own z.1 ≠ [] → H z.2 = some (.lst (refs (ofR T.e.own z.1)))
  all : ∀ T ∈ S.ts, ∀ x ∈ T.e.own, ∃ z ∈ S.held, z.1 = x.r
  owd : ∀ z ∈ S.held, ∃ T ∈ S.ts, ofR T.e.own z.1 ≠ []
  one : ∀ z ∈ S.held, ∀ y ∈ S.held, z.1 = y.1 ∨ z.2 = y.2 → z = y
  nl : ∀ z ∈ S.held, z.2 ≠ S.p.b ∧ z.2 ≠ S.p.m ∧ ∀ T ∈ S.ts, z.2 ≠ T.q.o ∧ z.2 ≠ T.q.s
  fl : ∀ z ∈ S.held, F z.2
  ap : S.ts.Pairwise Tr.Apart
  bk : BkR H F S.bl.reverse (blkOf S.sorts (vT S.top :: S.sus.map vT))
  wf : Wf S.sorts (eT S.top :: S.sus.map eT)
  hn : (S.held.map (·.1)).Nodup
section
variable {c : Cs} {CW : Addr} {H H' : Hp} {F F' : Addr → Prop} {p : DbP} {T U : Tr} {S : SG}
theorem TrG.mv (h : TrG c CW H F p T) (k : ∀ x o, F x → H x = some o → H' x = some o) (s : ∀ x, F x → F' x) : TrG c CW H' F' p T :=
  ⟨h.ne, k _ _ h.ft h.ht, k _ _ h.fo h.ho, k _ _ h.fs h.hs, fun x hx => (h.hw x hx).mv fun o e => k _ _ (h.fw x hx) e, h.low, h.nos, h.nob, h.nom, h.nsb, h.nsm, s _ h.ft, s _ h.fo, s _ h.fs, fun x hx => s _ (h.fw x hx)⟩
theorem DbG.mv (h : DbG c CW H F S) (k : ∀ x o, F x → H x = some o → H' x = some o) (s : ∀ x, F x → F' x) : DbG c CW H' F' S :=
  ⟨h.db.mv k s, fun T hT => (h.tr T hT).mv k s, fun T hT z hz n => k _ _ (h.fl z hz) (h.hl T hT z hz n), h.all, h.owd, h.one, h.nl, fun z hz => s _ (h.fl z hz), h.ap, h.bk.mv (fun x xs f e => k x _ f e) s, h.wf, h.hn⟩
theorem DbG.same (h : DbG c CW H F S) (s : Same H H') : DbG c CW H' F S := h.mv (fun x o _ e => s x o e) fun _ z => z
/-- a record is written by one transaction only -/
theorem DbG.by (h : DbG c CW H F S) (hT : T ∈ S.ts) (hU : U ∈ S.ts) {r : Str} (eT : ofR T.e.own r ≠ []) (eU : ofR U.e.own r ≠ []) : T = U := by
  obtain ⟨x, hx⟩ := List.exists_mem_of_ne_nil _ eT
  obtain ⟨y, hy⟩ := List.exists_mem_of_ne_nil _ eU
  have hx := List.mem_filter.mp hx
  have hy := List.mem_filter.mp hy
  have rr : x.r = y.r := (of_decide_eq_true hx.2).trans (of_decide_eq_true hy.2).symm
  have key : ∀ (l : List Tr), l.Pairwise Tr.Apart → T ∈ l → U ∈ l → T = U := by
    intro l
    induction l with
    | nil => intro _ h1; cases h1
    | cons V0 l ih =>
      intro pw h1 h2
      obtain ⟨pw1, pw2⟩ := List.pairwise_cons.mp pw
      rcases List.mem_cons.mp h1 with e1 | h1
      · rcases List.mem_cons.mp h2 with e2 | h2
        · rw [e1, e2]
        · exact absurd rr ((pw1 U h2).2.2.2.2.2 x (e1 ▸ hx.1) y hy.1).1
      · rcases List.mem_cons.mp h2 with e2 | h2
        · exact absurd rr.symm ((pw1 T h1).2.2.2.2.2 y (e2 ▸ hy.1) x hx.1).1
        · exact ih pw2 h1 h2
  exact key _ h.ap hT hU
theorem DbG.apart (h : DbG c CW H F S) (hT : T ∈ S.ts) (hU : U ∈ S.ts) (n : T ≠ U) : T.t ≠ U.t := by
  have key : ∀ (l : List Tr), l.Pairwise Tr.Apart → T ∈ l → U ∈ l → T.t ≠ U.t := by
    intro l
    induction l with
    | nil => intro _ h1; cases h1
    | cons V0 l ih =>
      intro pw h1 h2
      obtain ⟨pw1, pw2⟩ := List.pairwise_cons.mp pw
      rcases List.mem_cons.mp h1 with e1 | h1
      · rcases List.mem_cons.mp h2 with e2 | h2
        · exact absurd (e1.trans e2.symm) n
        · rw [e1]; exact (pw1 U h2).1
      · rcases List.mem_cons.mp h2 with e2 | h2
        · rw [e2]; exact (pw1 T h1).1.symm
        · exact ih pw2 h1 h2
  exact key _ h.ap hT hU
theorem SG.topMem {T : Tr} (e : S.top = some T) : T ∈ S.ts := by
  unfold SG.ts
  rw [e]
  simp
/-- whether r is held, and by whom -/
theorem DbG.find (h : DbG c CW H F S) (r : Str) : (∃ (z : Str × Addr) (T : Tr), (S.held.find? fun z => decide (z.1 = r)) = some z ∧ T ∈ S.ts ∧ ofR T.e.own r ≠ [] ∧ H z.2 = some (.lst (refs (ofR T.e.own r)))) ∨ ((S.held.find? fun z => decide (z.1 = r)) = none ∧ ∀ T ∈ S.ts, ofR T.e.own r = []) := by
  cases e : S.held.find? fun z => decide (z.1 = r) with
  | none =>
    refine .inr ⟨rfl, fun T hT => List.filter_eq_nil_iff.mpr fun x hx q => ?_⟩
    obtain ⟨z, hz, e2⟩ := h.all T hT x hx
    exact List.find?_eq_none.mp e z hz (decide_eq_true (e2.trans (of_decide_eq_true q)))
  | some z =>
    have zm := List.mem_of_find?_eq_some e
    have zr : z.1 = r := of_decide_eq_true (List.find?_some (p := fun z : Str × Addr => decide (z.1 = r)) e)
    obtain ⟨T, hT, n⟩ := h.owd z zm
    have g := h.hl T hT z zm n
    rw [zr] at g n
    exact .inl ⟨z, T, rfl, hT, n, g⟩
theorem DbG.get (h : DbG c CW H F S) (r : Str) : DGet H S.p.h (.str r) ((S.held.find? fun z => decide (z.1 = r)).map fun z => .ref z.2) := by
  have q := DGet.k (k := .inr r) h.db.hh
  rw [valV_hd3] at q
  exact q
end
/-! ### the writes with their fates -/
theorem ne14 {H : Hp} {a b : Addr} {o u : HO} (h1 : H a = some o) (k : kin o = 14) (h2 : H b = some u) (n : kin u ≠ 14 := by simp [kin]) : a ≠ b := ne_kin h1 h2 (by rw [k]; exact n.symm)
/-- writes stand -/
def Wst (H H' : Hp) : Prop := ∀ b o, H b = some o → kin o = 14 → H' b = some o
theorem Wst.trans {H H1 H2 : Hp} (a : Wst H H1) (b : Wst H1 H2) : Wst H H2 := fun x o e k => b x o (a x o e k) k
theorem Wst.same {H H' : Hp} (s : Same H H') : Wst H H' := fun x o e _ => s x o e
abbrev Fw := Wr × Str
structure Fts (CW : Addr) (H : Hp) (F : Addr → Prop) (made : List V) (W : List Fw) : Prop where
  eq : made = W.map fun x => V.ref x.1.a
  nd : (W.map fun x => x.1.a).Nodup
  at_ : ∀ x ∈ W, ∃ (dx : Addr) (h : V), H x.1.a = some (.ins CW dx (wrf x.1.r x.1.v h (.str x.2)))
  fw : ∀ x ∈ W, F x.1.a
theorem Fts.st {CW : Addr} {H H' : Hp} {F F' : Addr → Prop} {made : List V} {W : List Fw} (h : Fts CW H F made W) (s : Wst H H') (f : ∀ x, F x → F' x) : Fts CW H' F' made W :=
  ⟨h.eq, h.nd, fun x hx => let ⟨dx, hv, e⟩ := h.at_ x hx; ⟨dx, hv, s _ _ e rfl⟩, fun x hx => f _ (h.fw x hx)⟩
theorem Fts.mv {CW : Addr} {H H' : Hp} {F F' : Addr → Prop} {made : List V} {W : List Fw} (h : Fts CW H F made W) (k : ∀ x o, F x → H x = some o → H' x = some o) (f : ∀ x, F x → F' x) : Fts CW H' F' made W :=
  ⟨h.eq, h.nd, fun x hx => let ⟨dx, hv, e⟩ := h.at_ x hx; ⟨dx, hv, k _ _ (h.fw x hx) e⟩, fun x hx => f _ (h.fw x hx)⟩
/-- the writes m have the fate f now -/
def fateOf (m : List Wr) (f : Str) (W : List Fw) : List Fw := W.map fun x => (x.1, if (m.any fun y => decide (y.a = x.1.a)) = true then f else x.2)
theorem fateOf_nil (f : Str) (W : List Fw) : fateOf [] f W = W := by
  unfold fateOf
  conv => rhs; rw [← List.map_id W]
  apply List.map_congr_left
  intro x _
  rfl
theorem Fts.fate {CW : Addr} {H H' : Hp} {F F' : Addr → Prop} {made : List V} {W : List Fw} {m : List Wr} {f : Str} (h : Fts CW H F made W) (s : ∀ b o, H b = some o → kin o = 14 → (∀ x ∈ m, b ≠ x.a) → H' b = some o)
    (w : ∀ x ∈ m, ∃ (hv : V), WAt CW H hv x) (g : ∀ x ∈ m, ∃ (dx : Addr) (hv : V), H' x.a = some (.ins CW dx (wrf x.r x.v hv (.str f)))) (k : ∀ x, F x → F' x) : Fts CW H' F' made (fateOf m f W) := by
  refine ⟨?_, ?_, fun x hx => ?_, fun x hx => ?_⟩
  · rw [h.eq]
    unfold fateOf
    rw [List.map_map]
    rfl
  · have e : (fateOf m f W).map (fun x => x.1.a) = W.map fun x => x.1.a := by
      unfold fateOf
      rw [List.map_map]
      rfl
    rw [e]
    exact h.nd
  · obtain ⟨y, hy, rfl⟩ := List.mem_map.mp hx
    obtain ⟨dx, hv, e⟩ := h.at_ y hy
    by_cases q : (m.any fun z => decide (z.a = y.1.a)) = true
    · obtain ⟨z, hz, ez⟩ := List.any_eq_true.mp q
      have ez : z.a = y.1.a := of_decide_eq_true ez
      obtain ⟨hv2, dx2, f2, e2⟩ := w z hz
      obtain ⟨dx3, hv3, e3⟩ := g z hz
      rw [ez, e] at e2
      injection e2 with e2
      injection e2 with _ _ e2
      simp only [List.cons.injEq, Prod.mk.injEq, V.str.injEq, true_and, and_true] at e2
      refine ⟨dx3, hv3, ?_⟩
      show H' y.1.a = some (.ins CW dx3 (wrf y.1.r y.1.v hv3 (.str (if _ then f else y.2))))
      rw [if_pos q, ← ez, e3, ← e2.1, ← e2.2.1]
    · refine ⟨dx, hv, ?_⟩
      show H' y.1.a = some (.ins CW dx (wrf y.1.r y.1.v hv (.str (if _ then f else y.2))))
      rw [if_neg q]
      exact s _ _ e rfl fun z hz n => q (List.any_eq_true.mpr ⟨z, hz, decide_eq_true n.symm⟩)
  · obtain ⟨y, hy, rfl⟩ := List.mem_map.mp hx
    exact k _ (h.fw y hy)
theorem Fts.put {CW : Addr} {H H' : Hp} {F F' : Addr → Prop} {made : List V} {W : List Fw} {a : Addr} {r f : Str} {v : V} (h : Fts CW H F made W) (s : Wst H H') (n : H a = none) (g : ∃ (dx : Addr) (hv : V), H' a = some (.ins CW dx (wrf r v hv (.str f)))) (k : ∀ x, F x → F' x) (fa : F' a) :
    Fts CW H' F' (made ++ [.ref a]) (W ++ [(⟨a, r, v⟩, f)]) := by
  refine ⟨by rw [h.eq, List.map_append]; rfl, ?_, fun x hx => ?_, fun x hx => ?_⟩
  · rw [List.map_append]
    refine List.nodup_append.mpr ⟨h.nd, by simp, fun b hb c hc e => ?_⟩
    rw [List.map_cons, List.map_nil, List.mem_singleton] at hc
    obtain ⟨y, hy, ey⟩ := List.mem_map.mp hb
    obtain ⟨dx, hv, e2⟩ := h.at_ y hy
    rw [ey, e, hc, n] at e2
    cases e2
  · rcases List.mem_append.mp hx with hx | hx
    · obtain ⟨dx, hv, e⟩ := h.at_ x hx
      exact ⟨dx, hv, s _ _ e rfl⟩
    · rw [List.mem_singleton.mp hx]
      exact g
  · rcases List.mem_append.mp hx with hx | hx
    · exact k _ (h.fw x hx)
    · rw [List.mem_singleton.mp hx]
      exact fa
def SzG (S : SG) (n : Nat) : Prop := S.made.length ≤ n ∧ S.bl.length ≤ n ∧ S.held.length ≤ n ∧ S.kept.length ≤ n ∧ ∀ T ∈ S.ts, T.e.own.length ≤ n ∧ T.e.length ≤ n
def spLookG (c : Cs) (CW : Addr) (n : Nat) (g : SG → List V → V → Prop) : Sp := fun vs H Q _ => ∃ (S : SG) (F : Addr → Prop) (us : List V) (v : V), vs = .ref S.d :: us ∧ us.length = n ∧ DbG c CW H F S ∧ SzG S 1000 ∧ g S us v ∧ Q v H
/-- the database while its dict of held records may be locked (it is walked) -/
def DbL (c : Cs) (CW : Addr) (H : Hp) (F : Addr → Prop) (S : SG) : Prop := ∃ H0, DbG c CW H0 F S ∧ (∀ a o, H0 a = some o → a ≠ S.p.h → H a = some o) ∧ Rd H S.p.h (.dK (hd3 S.held))
theorem DbG.L {c : Cs} {CW : Addr} {H : Hp} {F : Addr → Prop} {S : SG} (h : DbG c CW H F S) : DbL c CW H F S := ⟨H, h, fun _ _ e _ => e, .inl h.db.hh⟩
theorem DbL.get {c : Cs} {CW : Addr} {H : Hp} {F : Addr → Prop} {S : SG} (h : DbL c CW H F S) (r : Str) : DGet H S.p.h (.str r) ((S.held.find? fun z => decide (z.1 = r)).map fun z => .ref z.2) := by
  obtain ⟨H0, _, _, rd⟩ := h
  refine .inl ⟨hd3 S.held, .inr r, rd, rfl, ?_⟩
  rw [valV_hd3]
theorem DbL.up {c : Cs} {CW : Addr} {H : Hp} {F : Addr → Prop} {S : SG} (h : DbL c CW H F S) : ∃ H0, DbG c CW H0 F S ∧ ∀ {a : Addr} {o : HO}, H0 a = some o → kin o ≠ 3 → H a = some o := by
  obtain ⟨H0, hd, up, _⟩ := h
  exact ⟨H0, hd, fun {a o} e n => up a o e (ne_kin e hd.db.hh n)⟩
theorem DbL.same {c : Cs} {CW : Addr} {H H' : Hp} {F : Addr → Prop} {S : SG} (h : DbL c CW H F S) (s : Same H H') : DbL c CW H' F S := by
  obtain ⟨H0, hd, up, rd⟩ := h
  exact ⟨H0, hd, fun a o e n => s _ _ (up a o e n), rd.imp (s _ _) fun ⟨o, e⟩ => ⟨o, s _ _ e⟩⟩
def spLookL (c : Cs) (CW : Addr) (n : Nat) (g : SG → List V → V → Prop) : Sp := fun vs H Q _ => ∃ (S : SG) (F : Addr → Prop) (us : List V) (v : V), vs = .ref S.d :: us ∧ us.length = n ∧ DbL c CW H F S ∧ SzG S 1000 ∧ g S us v ∧ Q v H
/-- r is held by the present transaction; by a suspended one -/
def SG.mine (S : SG) (r : Str) : Bool := !(ofR (oT S.top) r).isEmpty
def SG.wait (S : SG) (r : Str) : Bool := S.sus.any fun o => !(ofR (oT o) r).isEmpty
end IC
namespace IC
open PySem L2 TL
/-- the tuples rs of the texts al -/
def Tups (H : Hp) (rs : List Addr) (al : List (List Str)) : Prop := rs.length = al.length ∧ ∀ (i : Nat) (r : Addr) (k : List Str), rs[i]? = some r → al[i]? = some k → H r = some (.tup (k.map V.str))
/-! ### two sorted lists of the same texts are one -/
def leS (a b : Str) : Prop := PySem.Spec.ltCps b.cps.toList a.cps.toList = false
theorem rise_all : ∀ (l : List Str) (p : Str), PyProof.Rows.risingS p l = true → leS p (l.headD p) ∧ PyProof.Rows.sortedS l = true
  | [], p, _ => ⟨by
      show PySem.Spec.ltCps p.cps.toList p.cps.toList = false
      rw [PyProof.Rows.ltCps_eq]
      exact decide_eq_false (List.lt_irrefl _), rfl⟩
  | x :: r, p, h => by
    have h : (!PySem.Spec.ltCps x.cps.toList p.cps.toList && PyProof.Rows.risingS x r) = true := h
    rw [Bool.and_eq_true, Bool.not_eq_true'] at h
    exact ⟨h.1, h.2⟩
theorem leS_iff {a b : Str} : leS a b ↔ ¬ b.cps.toList < a.cps.toList := by
  unfold leS
  rw [PyProof.Rows.ltCps_eq, decide_eq_false_iff_not]
theorem leS_trans {a b c : Str} (h1 : leS a b) (h2 : leS b c) : leS a c := by
  rw [leS_iff] at *
  exact fun h => h1 (List.lt_of_le_of_lt (List.not_lt.mp h2) h)
theorem leS_anti {a b : Str} (h1 : leS a b) (h2 : leS b a) : a = b := by
  rw [leS_iff] at *
  have e : a.cps.toList = b.cps.toList := List.le_antisymm (List.not_lt.mp h1) (List.not_lt.mp h2)
  rcases a with ⟨⟨a⟩⟩
  rcases b with ⟨⟨b⟩⟩
  have e : a = b := e
  rw [e]
theorem sorted_pw : ∀ l : List Str, PyProof.Rows.sortedS l = true → l.Pairwise leS
  | [], _ => .nil
  | x :: r, h => by
    have z := rise_all r x h
    have ih := sorted_pw r z.2
    refine List.pairwise_cons.mpr ⟨fun y hy => ?_, ih⟩
    cases r with
    | nil => cases hy
    | cons u r =>
      have hu : leS x u := z.1
      rcases List.mem_cons.mp hy with rfl | hy
      · exact hu
      · exact leS_trans hu ((List.pairwise_cons.mp ih).1 y hy)
theorem sorted_one {l m : List Str} (p : l.Perm m) (h1 : PyProof.Rows.sortedS l = true) (h2 : PyProof.Rows.sortedS m = true) : l = m :=
  p.eq_of_pairwise (le := leS) (fun a b _ _ => leS_anti) (sorted_pw l h1) (sorted_pw m h2)
theorem perm_mem {l m : List Str} (h1 : l.Nodup) (h2 : m.Nodup) (h : ∀ z, z ∈ l ↔ z ∈ m) : l.Perm m := (List.perm_ext_iff_of_nodup h1 h2).mpr h
/-- the sublists of ns, in the order of the program -/
def subs (ns : List Str) : List (List Str) := ns.foldl (fun acc n => acc ++ acc.map (· ++ [n])) [[]]
theorem subs_take {ns : List Str} {i : Nat} {n : Str} (h : ns[i]? = some n) : subs (ns.take (i + 1)) = subs (ns.take i) ++ (subs (ns.take i)).map (· ++ [n]) := by
  unfold subs
  rw [List.take_add_one, h, List.foldl_append]
  rfl
theorem subs_len (ns : List Str) : (subs ns).length = 2 ^ ns.length := by
  have all : ∀ (ns : List Str) (acc : List (List Str)), (ns.foldl (fun acc n => acc ++ acc.map (· ++ [n])) acc).length = acc.length * 2 ^ ns.length := by
    intro ns
    induction ns with
    | nil => intro acc; simp
    | cons n ns ih =>
      intro acc
      rw [List.foldl_cons, ih, List.length_append, List.length_map, List.length_cons, Nat.pow_succ]
      rw [← Nat.two_mul, Nat.mul_comm 2, Nat.mul_assoc, Nat.mul_comm 2]
  have z := all ns [[]]
  simpa [subs] using z
theorem subs_few {ns : List Str} (h : ns.length ≤ 6) : (subs ns).length ≤ 64 := by
  rw [subs_len]
  exact Nat.pow_le_pow_right (by decide) h
theorem subs_few8 {ns : List Str} (h : ns.length ≤ 8) : (subs ns).length ≤ 256 := by
  rw [subs_len]
  exact Nat.pow_le_pow_right (by decide) h
theorem subs_snoc (ns : List Str) (n : Str) : subs (ns ++ [n]) = subs ns ++ (subs ns).map (· ++ [n]) := by
  unfold subs
  rw [List.foldl_append]
  rfl
theorem subs_all : ∀ (m : Nat) (ns : List Str), ns.length = m → ∀ k, k ∈ subs ns ↔ k.Sublist ns
  | 0, [], _, k => by
    show k ∈ [[]] ↔ _
    rw [List.mem_singleton, List.sublist_nil]
  | m + 1, ns, h, k => by
    rcases List.eq_nil_or_concat ns with rfl | ⟨ms, n, rfl⟩
    · cases h
    · rw [List.concat_eq_append] at *
      rw [List.length_append, List.length_singleton] at h
      have ih := subs_all m ms (by omega)
      rw [subs_snoc, List.mem_append, List.mem_map, List.sublist_append_iff, ih k]
      constructor
      · rintro (q | ⟨k2, q, rfl⟩)
        · exact ⟨k, [], (List.append_nil k).symm, q, List.nil_sublist _⟩
        · exact ⟨k2, [n], rfl, (ih k2).mp q, List.Sublist.refl _⟩
      · rintro ⟨k1, k2, rfl, q1, q2⟩
        cases q2 with
        | cons _ q =>
          rw [List.sublist_nil.mp q, List.append_nil]
          exact .inl q1
        | cons_cons _ q =>
          rw [List.sublist_nil.mp q]
          exact .inr ⟨k1, (subs_all m ms (by omega) k1).mpr q1, rfl⟩
theorem subs_iff {ns k : List Str} : k ∈ subs ns ↔ k.Sublist ns := subs_all _ ns rfl k
theorem Tups.same {H H' : Hp} {rs : List Addr} {al : List (List Str)} (h : Tups H rs al) (s : Same H H') : Tups H' rs al := ⟨h.1, fun i r k e1 e2 => s _ _ (h.2 i r k e1 e2)⟩
theorem Tups.snoc {H : Hp} {rs : List Addr} {al : List (List Str)} {r : Addr} {k : List Str} (h : Tups H rs al) (hr : H r = some (.tup (k.map V.str))) : Tups H (rs ++ [r]) (al ++ [k]) := by
  refine ⟨by rw [List.length_append, List.length_append, h.1]; rfl, fun i r2 k2 e1 e2 => ?_⟩
  rcases Nat.lt_trichotomy i rs.length with lt | eq | gt
  · rw [List.getElem?_append_left lt] at e1
    rw [List.getElem?_append_left (by rw [← h.1]; exact lt)] at e2
    exact h.2 i r2 k2 e1 e2
  · subst eq
    rw [List.getElem?_append_right (Nat.le_refl _), Nat.sub_self] at e1
    rw [List.getElem?_append_right (by rw [← h.1]; exact Nat.le_refl _), ← h.1, Nat.sub_self] at e2
    cases e1
    cases e2
    exact hr
  · rw [List.getElem?_eq_none (by rw [List.length_append]; exact gt)] at e1
    cases e1
theorem Tups.append {H : Hp} {rs ss : List Addr} {al bl : List (List Str)} (h : Tups H rs al) (g : Tups H ss bl) : Tups H (rs ++ ss) (al ++ bl) := by
  refine ⟨by rw [List.length_append, List.length_append, h.1, g.1], fun i r k e1 e2 => ?_⟩
  rcases Nat.lt_or_ge i rs.length with lt | ge
  · rw [List.getElem?_append_left lt] at e1
    rw [List.getElem?_append_left (by rw [← h.1]; exact lt)] at e2
    exact h.2 i r k e1 e2
  · rw [List.getElem?_append_right ge] at e1
    rw [List.getElem?_append_right (by rw [← h.1]; exact ge), ← h.1] at e2
    exact g.2 _ r k e1 e2
theorem Tups.atL {H : Hp} {rs : List Addr} {al : List (List Str)} {D : Addr} {xs ys : List V} (h : Tups H rs al) (hD : H D = some (.lst xs)) : Tups (upd H D (.lst ys)) rs al := ⟨h.1, fun i r k e1 e2 => by
  have q := h.2 i r k e1 e2
  have ne : r ≠ D := fun e => by
    rw [e, hD] at q
    cases q
  rw [upd_ne ne]
  exact q⟩
def rLenK (K : PySem.W.Frag) : List V → Hp → VK → Prop := fun xs H Q => ∃ p ys, xs = [V.ref p] ∧ (SqL K H p ys ∨ SqT K H p ys) ∧ Q (V.int ys.length) H
theorem at_strs {ws : List Str} {d : Int} (h0 : 0 ≤ d) (h1 : d < ws.length) : ∃ z ∈ ws, atI (ws.map V.str) d = some (.str z) := by
  have lt : d.toNat < ws.length := by omega
  refine ⟨ws[d.toNat], List.getElem_mem lt, ?_⟩
  have z := atI_nat (xs := ws.map V.str) (j := d.toNat) (v := .str ws[d.toNat]) (by rw [List.getElem?_map, List.getElem?_eq_getElem lt]; rfl)
  rwa [Int.toNat_of_nonneg h0] at z
theorem inV_strs (z : Str) (ks : List Str) : inV (.str z) (ks.map V.str) = decide (z ∈ ks) := by
  unfold inV
  induction ks with
  | nil => rfl
  | cons y ks ih =>
    rw [List.map_cons, List.any_cons, ih]
    have e : eqV (.str y) (.str z) = decide (z = y) := by
      show (y == z) = decide (z = y)
      rw [Bool.eq_iff_iff, beq_iff_eq, decide_eq_true_iff]
      exact eq_comm
    rw [e, Bool.eq_iff_iff, Bool.or_eq_true, decide_eq_true_iff, decide_eq_true_iff, decide_eq_true_iff, List.mem_cons]
theorem flat_ks (ks : List Str) : (ks.map V.str).all flatV = true := by
  rw [List.all_eq_true]
  intro x hx
  rcases List.mem_map.mp hx with ⟨y, _, rfl⟩
  rfl
theorem eqv_strs : ∀ xs ys : List Str, PyData.eqvAll (xs.map PyData.str) (ys.map PyData.str) = decide (xs = ys)
  | [], [] => rfl
  | [], _ :: _ => rfl
  | _ :: _, [] => rfl
  | x :: xs, y :: ys => by
    show (x == y && PyData.eqvAll (xs.map PyData.str) (ys.map PyData.str)) = _
    rw [eqv_strs xs ys, Bool.eq_iff_iff, Bool.and_eq_true, beq_iff_eq, decide_eq_true_iff, decide_eq_true_iff, List.cons.injEq]
theorem eqv_lists (xs ys : List Str) : PyData.eqv (.list (xs.map PyData.str)) (.list (ys.map PyData.str)) = decide (xs = ys) := eqv_strs xs ys
theorem wipe_len {σ : L2.St} {gi : Nat} : List.length (wipe σ [gi]) = σ.length := by
  show (σ.set gi none).length = σ.length
  rw [List.length_set]
/-- a comprehension that keeps the tuples of texts for which c holds -/
theorem lc_keep {K : PySem.W.Frag} {tt : TT} {gi : Nat} {σ : L2.St} {H1 : Hp} {D l : Addr} {rs : List Addr} {al : List (List Str)} {Qd : Hp → Prop} (c : List Str → Bool) (hg : gi < σ.length) (hl : H1 l = some (.lst (rs.map V.ref))) (tu : Tups H1 rs al) (few : al.length ≤ 100) (nD : H1 D = none)
    (test : ∀ (r : Addr) (key : List Str) (G : Hp) (Q : Bool → Hp → Prop), key ∈ al → Same H1 G → G r = some (.tup (key.map V.str)) → (∀ G', Same G G' → Q (c key) G') → tt ((σ.set gi none).set gi (some (.ref r))) G Q)
    (fin : ∀ (G : Hp) (ss : List Addr), Same H1 G → G D = some (.lst (ss.map V.ref)) → Tups G ss (al.filter c) → Qd G) :
    ∃ W : Nat → Nat → Hp → Prop, (∃ m, W 0 m (upd H1 D (.lst []))) ∧ ∀ i m H, W i m H →
      ((Itl K l).stop i H ∧ Qd H) ∨ ((Itl K l).go i H ∧ ∃ Nx : Hp → Prop, (∀ H', Nx H' → ∃ m', m' < m ∧ W (i + 1) m' H') ∧ ∀ x H', (Itl K l).yld i H x H' → gName gi x (wipe σ [gi]) H' fun σ2 H2 => wipe σ2 [gi] = wipe σ [gi] ∧ tt σ2 H2 fun b H3 =>
        if b = true then tVar gi σ2 H3 fun y H4 => ∃ acc, H4 D = some (.lst acc) ∧ acc.length < sizeLine ∧ Nx (upd H4 D (.lst (acc ++ [y]))) else Nx H3) := by
  have rl := tu.1
  refine lc_list (K := K) (a := l) (xs := rs.map V.ref) (fun j G => Same H1 G ∧ ∃ ss : List Addr, G D = some (.lst (ss.map V.ref)) ∧ Tups G ss ((al.take j).filter c)) ⟨Same.new nD, [], upd_same, rfl, fun i r k e1 e2 => by cases e1⟩ (fun j G _ h => SqL.of (h.1 _ _ hl)) (fun j y G hj h => ?_) (fun G h => ?_)
  · obtain ⟨s2, ss, hD, ts⟩ := h
    rw [List.getElem?_map] at hj
    cases er : rs[j]? with
    | none =>
      rw [er] at hj
      cases hj
    | some r =>
      rw [er] at hj
      cases hj
      have lj : j < al.length := by
        rw [← rl]
        exact (List.getElem?_eq_some_iff.mp er).1
      have ek : al[j]? = some al[j] := List.getElem?_eq_getElem lj
      generalize al[j] = key at ek
      have hr1 := s2 _ _ (tu.2 j r key er ek)
      have et : (al.take (j + 1)).filter c = (al.take j).filter c ++ [key].filter c := by
        rw [List.take_add_one, ek, List.filter_append]
        rfl
      refine ⟨by simp [wipe], ?_⟩
      refine test r key G _ (List.mem_of_getElem? ek) s2 hr1 fun G2 s3 => ?_
      cases ec : c key with
      | false =>
        refine iteF ⟨s2.trans s3, ss, s3 _ _ hD, ?_⟩
        rw [et]
        simp only [List.filter_cons, ec, List.filter_nil]
        have q := ts.same s3
        simpa using q
      | true =>
        have hD2 := s3 _ _ hD
        refine iteT ⟨.ref r, ?_, _, hD2, small1000 ?_, fun b o e => ?_, ss ++ [r], ?_, ?_⟩
        · exact List.getElem?_set_self (by rw [wipe_len]; exact hg)
        · have q1 := List.length_filter_le c (al.take j)
          have q2 : (al.take j).length ≤ al.length := by rw [List.length_take]; omega
          rw [List.length_map, ts.1]
          omega
        · rw [upd_ne (ne_of_none e nD)]
          exact (s2.trans s3) _ _ e
        · rw [upd_same, List.map_append]
          rfl
        · rw [et]
          simp only [List.filter_cons, ec, List.filter_nil, if_true]
          exact ((ts.same s3).snoc (s3 _ _ hr1)).atL hD2
  · obtain ⟨s2, ss, hD, ts⟩ := h
    rw [List.length_map, rl, List.take_length] at ts
    exact fin G ss s2 hD ts
end IC
namespace IC
open PySem L2 TL
/-- a comprehension over range(n) whose elements are texts that come from the pool -/
theorem lc_strs {te : TE} {gi : Nat} {σ : L2.St} {H1 : Hp} {D p : Addr} {Qd : Hp → Prop} (Ok : Str → Prop) (n : Nat) (m : Int) (hn : n ≤ 1000) (hp : PoolAt H1 p m) (hD : H1 D = none)
    (hte : ∀ (x : V) (m' : Int) (H : Hp) (Q : VK), PoolAt H p m' → m' ≤ m + 9 * n → Kp [p] H1 H → (∀ z H', Ok z → PoolAt H' p (m' + 9) → Kp [p] H H' → Q (.str z) H') → te ((σ.set gi none).set gi (some x)) H Q)
    (hd : ∀ (zs : List Str) (H' : Hp), zs.length = n → (∀ z ∈ zs, Ok z) → H' D = some (.lst (zs.map V.str)) → PoolAt H' p (m + 9 * n) → Kp [p] H1 H' → Qd H') :
    ∃ W : Nat → Nat → Hp → Prop, (∃ m, W 0 m (upd H1 D (.lst []))) ∧ ∀ i m H, W i m H →
      ((Itr 0 n).stop i H ∧ Qd H) ∨ ((Itr 0 n).go i H ∧ ∃ Nx : Hp → Prop, (∀ H', Nx H' → ∃ m', m' < m ∧ W (i + 1) m' H') ∧ ∀ x H', (Itr 0 n).yld i H x H' → gName gi x (wipe σ [gi]) H' fun σ2 H2 => wipe σ2 [gi] = wipe σ [gi] ∧ tYes σ2 H2 fun b H3 =>
        if b = true then te σ2 H3 fun y H4 => ∃ acc, H4 D = some (.lst acc) ∧ acc.length < sizeLine ∧ Nx (upd H4 D (.lst (acc ++ [y]))) else Nx H3) := by
  have hpD : p ≠ D := by
    obtain ⟨a, b, c, e, _⟩ := hp
    exact ne_of_none e hD
  have Dp : D ∉ [p] := fun h => hpD (List.mem_singleton.mp h).symm
  refine lc_range (lo := 0) (n := n) (fun i H' => ∃ zs : List Str, zs.length = i ∧ (∀ z ∈ zs, Ok z) ∧ H' D = some (.lst (zs.map V.str)) ∧ PoolAt H' p (m + 9 * i) ∧ Kp [p] H1 H')
    ⟨[], rfl, by simp, upd_same, (hp.mv fun u e => by rw [upd_ne hpD]; exact e).up (by omega), Kp.new hD⟩ ?_ ?_
  · rintro i H' hi ⟨zs, hl, hz, hzD, hp2, kp⟩
    refine ⟨by simp [wipe], ?_⟩
    refine hte _ (m + 9 * i) H' _ hp2 (by omega) kp fun z H2 hOk hp3 k2 => ?_
    refine ⟨_, k2 _ _ hzD Dp, small1000 (by rw [List.length_map]; omega), zs ++ [z], by simp [hl], ?_, ?_, ?_, ((kp.trans k2).mut hD)⟩
    · intro x hx
      rcases List.mem_append.mp hx with hx | hx
      · exact hz x hx
      · rw [List.mem_singleton.mp hx]; exact hOk
    · rw [upd_same, List.map_append]
      rfl
    · exact (hp3.mv fun u q => by rw [upd_ne hpD]; exact q).up (by omega)
  · rintro H' ⟨zs, hl, hz, hzD, hp2, kp⟩
    exact hd zs H' hl hz hzD hp2 kp
end IC
namespace IC
open PySem L2 TL
theorem exm_pair {K : PySem.W.Frag} {S C : Addr} {b : Bool} (h1 : PySem.W.subIn K (.ref C) (.type "BaseException") = some true) (h2 : PySem.W.isClsIn K C = true) (h3 : PySem.W.typeIn K (.ref C) = some (.type "type")) (h4 : PySem.W.subIn K (.ref S) (.ref C) = some b) :
    PySem.W.exmOne K (.ref S) (.ref C) = some b := by
  have z1 : (PySem.W.subIn K (.ref C) (.type "BaseException") == some true) = true := by rw [h1] <;> rfl
  have z2 : ((PySem.W.clsIn K C).isSome && PySem.W.typeIn K (.ref C) == some (.type "type")) = true := by
    rw [show (PySem.W.clsIn K C).isSome = true from h2, h3] <;> rfl
  unfold PySem.W.exmOne
  rw [if_pos z1]
  unfold PySem.W.kitCls
  exact Eq.trans (if_pos z2) h4
end IC
/-! ### a for loop in a generator's body -/
namespace IC
open PySem PySem.Spec PyProof.Rows GenW L2
section
variable {M : Model} {A : Around} {R : GenEnd} {Y : Protocol} {n : Nat} {s₀ : Shared} {c : Code} {fs : List Frame} {s : Shared} {env : Env}
  {K : Flow → Sem PySem.Fin} {J : Value → Sem PySem.Fin} {gd : Bool → Bool} {lv : List Value → List Value}
theorem seg_fors {tg iter : Expr} {body orelse : List Stmt} {pos : Pos}
    (h : wpAny M (A.over c fs) (eval iter env) (fun x s1 => wpAny M (A.over c fs) (pyIter x) (fun it s2 =>
        ∀ p, Seg M A R Y n s₀ (.forLoop tg it body orelse env) (M.den (.forLoop tg it body orelse env))
          (.ret (fun r => ((match r with | .ok f => (.pure f : Sem Flow) | .error e => .raise e).onRaise (cameBack env)).wrap K J gd lv) none (gd false) (lv []) c p [] :: fs) s2)
        (fun x' s' => Seg M A R Y n s₀ c (J x') fs s') s1) (fun x' s' => Seg M A R Y n s₀ c (J x') fs s') s)
    (hs : ∀ x, foldedSetIterable iter env x = pure x := by intro _; rfl) :
    Seg M A R Y n s₀ c ((exec (.For tg iter body orelse pos) env).wrap K J gd lv) fs s := by
  rw [exec_For]
  refine seg_bind_wrap (wpAny_standAt ?_)
  refine seg_bind_wrap (wpAny_mono h (fun x s1 h1 => ?_) fun _ _ z => z)
  refine seg_bind_wrap (wpAny_of_eq (hs x) ?_)
  refine seg_bind_wrap (wpAny_standAt ?_)
  refine seg_bind_wrap (wpAny_holding (wpAny_mono h1 (fun it s2 h2 => ?_) fun _ _ z => z))
  exact seg_call h2
end
section
variable {prog : Program} {w : World} {A : Around} {R : GenEnd} {Y : Protocol} {n : Nat} {s₀ : Shared} {fs : List Frame} {s : Shared} {env : Env}
theorem seg_forTurn {tg : Expr} {it : Value} {body orelse : List Stmt}
    (h : wpAny (model prog w) (A.over (.forLoop tg it body orelse env) fs) (pyNext it) (fun r s1 => match r with
        | none => Seg (model prog w) A R Y n s₀ (.forLoop tg it body orelse env) (.pure (.again (.block orelse env))) fs s1
        | some v => wpAny (model prog w) (A.over (.forLoop tg it body orelse env) fs) (letOwnedTupleGo tg it v) (fun _ s2 =>
            wpAny (model prog w) (A.over (.forLoop tg it body orelse env) fs) (assign tg env v) (fun _ s3 =>
              Seg (model prog w) A R Y n s₀ (.forLoop tg it body orelse env) ((execs body env).wrap (fun f => match f with
                | .next | .cont => .pure (.again (.forLoop tg it body orelse env))
                | .brk => .pure (.done .next)
                | .ret v => .pure (.done (.ret v))) (fun e => (do noteFrame e env; theTreesLotGoes e : Sem Unit).wrap (fun _ => .raise e) .raise id id) id id) fs s3)
              (fun x s' => Seg (model prog w) A R Y n s₀ (.forLoop tg it body orelse env) ((do noteFrame x env; theTreesLotGoes x : Sem Unit).wrap (fun _ => .raise x) .raise id id) fs s') s2)
            (fun x s' => Seg (model prog w) A R Y n s₀ (.forLoop tg it body orelse env) ((do noteFrame x env; theTreesLotGoes x : Sem Unit).wrap (fun _ => .raise x) .raise id id) fs s') s1)
      (fun x s' => Seg (model prog w) A R Y n s₀ (.forLoop tg it body orelse env) ((do noteFrame x env; theTreesLotGoes x : Sem Unit).wrap (fun _ => .raise x) .raise id id) fs s') s) :
    Seg (model prog w) A R Y n s₀ (.forLoop tg it body orelse env) ((model prog w).den (.forLoop tg it body orelse env)) fs s := by
  show Seg _ A R Y n s₀ _ ((forTurn tg it body orelse env).onRaise (fun x => do noteFrame x env; theTreesLotGoes x)) fs s
  unfold forTurn
  have ee : ∀ (x : Value) (s' : Shared), Seg (model prog w) A R Y n s₀ (.forLoop tg it body orelse env) ((do noteFrame x env; theTreesLotGoes x : Sem Unit).wrap (fun _ => .raise x) .raise id id) fs s' →
      Seg (model prog w) A R Y n s₀ (.forLoop tg it body orelse env) ((do noteFrame x env; theTreesLotGoes x : Sem Unit).bind fun _ => .raise x) fs s' := fun x s' hx => by
    rw [Sem.bind_eq_wrap]; exact hx
  rw [Sem.onRaise_eq_wrap]
  refine seg_bind_wrap (wpAny_standAt ?_)
  refine seg_bind_wrap (wpAny_onRaise (wpAny_mono h (fun r s1 h1 => ?_) fun x s' hx => wpAny_standAt (ee x s' hx)))
  cases r with
  | none => exact h1
  | some v =>
    refine seg_bind_wrap (wpAny_mono h1 (fun _ s2 h2 => ?_) fun x s' hx => ee x s' hx)
    refine seg_bind_wrap (wpAny_mono h2 (fun _ s3 h3 => ?_) fun x s' hx => ee x s' hx)
    rw [Sem.bind_eq_wrap', Sem.wrap_wrap]
    rw [Sem.wrap_congr (execs body env) _ _ (K' := fun f => match f with
            | .next | .cont => .pure (.again (.forLoop tg it body orelse env))
            | .brk => .pure (.done .next)
            | .ret v => .pure (.done (.ret v))) (H' := (fun e => (do noteFrame e env; theTreesLotGoes e : Sem Unit).wrap (fun _ => .raise e) .raise id id))
        (fun f => by cases f <;> rfl)
        (fun e => by first | exact Sem.bind_eq_wrap _ _ | (show (do noteFrame e env; theTreesLotGoes e : Sem Unit).bind (fun _ => .raise e) = _; rw [Sem.bind_eq_wrap]))]
    exact h3
theorem seg_block0 (h : Seg (model prog w) A R Y n s₀ (.block [] env) (.pure (.done .next)) fs s) :
    Seg (model prog w) A R Y n s₀ (.block [] env) ((model prog w).den (.block [] env)) fs s := h
end
section
variable {X : Cx} {tg iter : Expr} {body : List Stmt} {pos : Pos}
def tGFor (wi : TI) (g : TG) (tb : TGn) : TGn := fun D ys σ H => wi σ H fun I H1 => ∃ W : Nat → Nat → List V → L2.St → Hp → Prop, (∃ m, W 0 m ys σ H1) ∧ ∀ i m ys σ H, W i m ys σ H →
  (I.stop i H ∧ D.nx ys σ H) ∨ (I.go i H ∧ ∃ N : List V → L2.St → Hp → Prop, (∀ ys' σ' H', N ys' σ' H' → ∃ m', m' < m ∧ W (i + 1) m' ys' σ' H') ∧ ∀ x H', I.yld i H x H' → g x σ H' fun σ2 H2 => tb { D with nx := N, ct := N, bk := D.nx } ys σ2 H2)
theorem gc_ip {S : Addr} {ip ip' : List (Addr × Obj)} {A : Around} {c : Code} {fs : List Frame} {gd : Bool → Bool} (g : GC X S ip A c fs gd) (h : ∀ p ∈ ip', p.1 ≠ S) : GC X S ip' A c fs gd :=
  ⟨g.pn, h, g.apart, g.over, g.split, g.guard, g.gd⟩
theorem gs_for {wi : TI} {gt : TG} {tb : TGn} (hp : PassesOwn (model X.prog X.w) X.A X.env X.xe) (hc : X.calm = true) (hi : PI X tg iter wi) (hg : PG X tg gt) (hb : GSs X body tb)
    (hs : ∀ x, foldedSetIterable iter X.env x = pure x := by intro _; rfl) : GS X (.For tg iter body [] pos) (tGFor wi gt tb) := by
  refine ⟨fun A S ip R n ys s₀ c fs K J gd lv s σ H D g hn k hI ht => ?_⟩
  obtain ⟨acc, cc, r, I⟩ := hI
  refine seg_fors ?_ hs
  rw [g.over]
  refine wpAny_mono (hi.run _ s σ H _ I ht) (fun v s1 h1 => wpAny_mono h1 (fun itv s2 h2 => ?_) fun x s' hx => k.exc n s₀ x s' hx) fun x s' hx => k.exc n s₀ x s' hx
  obtain ⟨it, fp, tn, It0, H2, e, I2, T, st2, f2, W, ⟨m0, w0⟩, turn⟩ := h2
  subst e
  intro p
  have gl := fun (kk : Result → Sem PySem.Fin) => gc_loop (k := kk) (c' := .forLoop tg (.ref it) body [] X.env) (l := lv []) (kp := []) (p := p) g rfl rfl
  -- what the iterator's objects keep away from
  have stat : ∀ {H' : Hp} {acc' : Array Value} {c' : Nat}, (∀ b ∈ fp, H' b = none) → ∀ b ∈ fp, FpOk X ((S, lstObj acc' c') :: ip) H' b := fun hn b hb => by
    obtain ⟨_, q1, q2, q3, q4, q5⟩ := f2 b hb
    refine ⟨hn b hb, q1, q2, q3, q4, fun p hp => ?_⟩
    rcases List.mem_append.mp hp with z | z
    · exact q5 p (List.mem_append_left _ z)
    · rcases List.mem_cons.mp z with z | z
      · rw [z]; exact q5 (S, lstObj acc cc) (List.mem_append_right _ List.mem_cons_self)
      · exact q5 p (List.mem_append_right _ (List.mem_cons_of_mem _ z))
  have fpS : ∀ b ∈ fp, b ≠ S := fun b hb z => (f2 b hb).2.2.2.2.2 (S, lstObj acc cc) (List.mem_append_right _ List.mem_cons_self) z.symm
  have loop : ∀ (m i n : Nat) (ys : List V) (s₀ s : Shared) (σ : L2.St) (H : Hp), n + ys.length = sizeLine → W i m ys σ H → GI X S ip ys σ H s → tn i s.heap → (∀ b ∈ fp, H b = none) →
      Seg (model X.prog X.w) A R (GY X S) n s₀ (.forLoop tg (.ref it) body [] X.env) ((model X.prog X.w).den (.forLoop tg (.ref it) body [] X.env))
        (.ret (fun r => ((match r with | .ok f => (.pure f : Sem Flow) | .error e => .raise e).onRaise (cameBack X.env)).wrap K J gd lv) none (gd false) (lv []) c p [] :: fs) s := by
    intro m
    induction m using Nat.strongRecOn with
    | ind m ih =>
      intro i n ys s₀ s σ H hn w hI st fr
      have ee : ∀ (n : Nat) (s₀ : Shared) (x : Value) (s' : Shared), X.xe x s' → Seg (model X.prog X.w) A R (GY X S) n s₀ (.forLoop tg (.ref it) body [] X.env)
          ((do noteFrame x X.env; theTreesLotGoes x : Sem Unit).wrap (fun _ => .raise x) .raise id id)
          (.ret (fun r => ((match r with | .ok f => (.pure f : Sem Flow) | .error e => .raise e).onRaise (cameBack X.env)).wrap K J gd lv) none (gd false) (lv []) c p [] :: fs) s' := fun n s₀ x s' hx => by
        refine seg_wrap ?_
        rw [(gl _).over]
        refine wpAny_bind (wpAny_mono (hp x s' hx) (fun _ s'' hcb => wpAny_theTreesLotGoes ?_) fun y s'' hcb => ?_)
        · exact seg_leaf (.error x) (seg_cameBack g k hcb)
        · exact seg_leaf (.error y) (seg_cameBack g k hcb)
      refine seg_forTurn ?_
      rw [(gl _).over]
      obtain ⟨acc1, c1, r1, I1⟩ := hI
      rcases turn i m ys σ H w with ⟨stop, qn⟩ | ⟨go, N, hN, step⟩
      · refine wpAny_mono (T.done X rfl rfl rfl hc i _ s σ H X.xe I1 (stat fr) st stop) (fun rr s4 ⟨hr, I4⟩ => ?_) fun x s' hx => ee n s₀ x s' hx
        subst hr
        exact seg_again rfl (seg_block0 (seg_leaf (.ok .next) (k.ok n ys s₀ s4 .next hn ⟨σ, H, ⟨acc1, c1, r1, I4⟩, qn⟩)))
      · refine wpAny_mono (T.item X rfl rfl rfl hc i _ s σ H X.xe I1 (stat fr) st go) (fun rr s4 ⟨u, hr, h4⟩ => ?_) fun x s' hx => ee n s₀ x s' hx
        subst hr
        refine wpAny_mono h4 (fun _ s5 ⟨x, H5, I5, r5, y5, st5, fr5⟩ => ?_) fun x s' hx => ee n s₀ x s' hx
        have I5' := I5.pinned (stat fr5) (T.obj _ _ st5)
        refine wpAny_mono (hg.run _ s5 σ H5 x u _ I5' r5 (step x H5 y5)) (fun _ s6 ⟨σ6, H6, I6, q6⟩ => ?_) fun x s' hx => ee n s₀ x s' hx
        have g6 : GI X S (ip ++ pinsAt fp s5.heap) ys σ6 H6 s6 := ⟨acc1, c1, r1, I6⟩
        have hip : ∀ p ∈ ip ++ pinsAt fp s5.heap, p.1 ≠ S := fun p hp => (List.mem_append.mp hp).elim (g.ip p) fun z => fpS p.1 (of_pinsAt z).1
        have back : ∀ {ys' : List V} {σ' : L2.St} {H' : Hp} {s' : Shared}, GI X S (ip ++ pinsAt fp s5.heap) ys' σ' H' s' → GI X S ip ys' σ' H' s' ∧ tn (i + 1) s'.heap ∧ ∀ b ∈ fp, H' b = none := fun {ys' σ' H' s'} ⟨a', c', r', J'⟩ => by
          have pp : ∀ b ∈ fp, ∀ o, s5.heap.get? b = some o → s'.heap.get? b = some o ∧ H' b = none := fun b hb o e =>
            let q := J'.pin (b, o) (List.mem_append_right _ (List.mem_cons_of_mem _ (List.mem_append_right _ (mem_pinsAt hb e))))
            ⟨q.1, q.2.1⟩
          refine ⟨⟨a', c', r', ?_⟩, T.keep _ _ _ st5 fun b hb o e => (pp b hb o e).1, fun b hb => ?_⟩
          · exact Inv.unpinned (pins := (S, lstObj a' c') :: ip) J'
          · obtain ⟨o, e, _⟩ := T.obj _ _ st5 b hb
            exact (pp b hb o e).2
        refine hb.run A S (ip ++ pinsAt fp s5.heap) R n ys s₀ _ _ _ _ id id s6 σ6 H6 { D with nx := N, ct := N, bk := D.nx } (gc_ip (gl _) hip) hn ⟨fun n' ys' s₀' s7 f hn' hs' => ?_, fun n' s₀' x s7 hx => ee n' s₀' x s7 hx⟩ g6 q6
        cases f with
        | next =>
          obtain ⟨σ7, H7, I7, n7⟩ := hs'
          obtain ⟨m', hm, w7⟩ := hN ys' σ7 H7 n7
          obtain ⟨b1, b2, b3⟩ := back I7
          exact seg_again rfl (ih m' hm (i + 1) n' ys' s₀' s7 σ7 H7 hn' w7 b1 b2 b3)
        | cont =>
          obtain ⟨σ7, H7, I7, n7⟩ := hs'
          obtain ⟨m', hm, w7⟩ := hN ys' σ7 H7 n7
          obtain ⟨b1, b2, b3⟩ := back I7
          exact seg_again rfl (ih m' hm (i + 1) n' ys' s₀' s7 σ7 H7 hn' w7 b1 b2 b3)
        | brk =>
          obtain ⟨σ7, H7, I7, n7⟩ := hs'
          exact seg_leaf (.ok .next) (k.ok n' ys' s₀' s7 .next hn' ⟨σ7, H7, (back I7).1, n7⟩)
        | ret v =>
          obtain ⟨x7, σ7, H7, I7, r7, n7⟩ := hs'
          exact seg_leaf (.ok (.ret v)) (k.ok n' ys' s₀' s7 (.ret v) hn' ⟨x7, σ7, H7, (back I7).1, r7, n7⟩)
  exact loop m0 0 n ys s₀ s2 σ H2 hn w0 ⟨acc, cc, r, I2⟩ st2 fun b hb => (f2 b hb).1
end
end IC
namespace IC
open PySem L2 TL
/-! ### the text by places -/
def top (i : Nat) : Stmt := PySem.Challenge.pw_innercommits_k13_within_leaves_all.main.body.getD i (.Pass ⟨0, 0, 0, 0⟩)
abbrev s_law_pool : Stmt := top 24
abbrev s_law_draw : Stmt := top 25
abbrev s_law_word : Stmt := top 26
abbrev s_is_word : Stmt := top 14
abbrev s_Mode_is_mode : Stmt := inClass (top 15) 9
abbrev s_Missing___init__ : Stmt := inClass (top 8) 0
abbrev s_Present___init__ : Stmt := inClass (top 9) 0
abbrev s_Doomed___init__ : Stmt := inClass (top 7) 0
abbrev s_Waits___init__ : Stmt := inClass (top 11) 0
abbrev s_BadWord___init__ : Stmt := inClass (top 3) 0
abbrev s_Refused___init__ : Stmt := inClass (top 10) 0
abbrev s_Failed___init__ : Stmt := inClass (top 12) 0
abbrev s_Write___init__ : Stmt := inClass (top 20) 0
abbrev s_Transaction___init__ : Stmt := inClass (top 21) 0
abbrev s_Database___init__ : Stmt := inClass (top 22) 0
abbrev s_Transaction_doom : Stmt := inClass (top 21) 1
abbrev s_Database__enter_free : Stmt := inClass (top 22) 3
abbrev s_Database__enter_present : Stmt := inClass (top 22) 4
abbrev s_Database_enter : Stmt := inClass (top 22) 2
abbrev s_Database_reason : Stmt := inClass (top 22) 18
abbrev s_Database_is_doomed : Stmt := inClass (top 22) 17
abbrev s_Database_is_open : Stmt := inClass (top 22) 16
abbrev s_Database_levels : Stmt := inClass (top 22) 19
abbrev s_Database_depth : Stmt := inClass (top 22) 20
abbrev s_Database__undo : Stmt := inClass (top 22) 8
abbrev s_Database__keep : Stmt := inClass (top 22) 9
abbrev s_Database__end_level : Stmt := inClass (top 22) 7
abbrev s_Database__end_block : Stmt := inClass (top 22) 6
abbrev s_Database__leave_above : Stmt := inClass (top 22) 30
abbrev s_Database_leave : Stmt := inClass (top 22) 5
abbrev s_Database_doom : Stmt := inClass (top 22) 15
abbrev s_Database__is_holder : Stmt := inClass (top 22) 12
abbrev s_Database_holds : Stmt := inClass (top 22) 21
abbrev s_Database_has_suspended : Stmt := inClass (top 22) 22
abbrev s_Database_held_records : Stmt := inClass (top 22) 25
abbrev s_Database_outer_records : Stmt := inClass (top 22) 26
abbrev s_law_enter : Stmt := top 27
abbrev s_law_bare : Stmt := top 28
abbrev s_law_ways : Stmt := top 29
abbrev s_Database_within : Stmt := inClass (top 22) 29
abbrev s_law_call : Stmt := top 30
abbrev s_law : Stmt := top 31
theorem sc_law_pool : FnScope ["script", "at", "cell", "size", "seed"] ["script", "at"] (defScope s_law_pool) := ⟨rfl, rfl, rfl, by decide +kernel, rfl, by decide +kernel, by decide +kernel⟩
theorem sc_law_draw : FnScope ["pool", "many", "digit", "count", "mixed"] ["pool", "many"] (defScope s_law_draw) := ⟨rfl, rfl, rfl, by decide +kernel, rfl, by decide +kernel, by decide +kernel⟩
theorem sc_law_word : FnScope ["pool", "letters", "k"] ["pool"] (defScope s_law_word) := ⟨rfl, rfl, rfl, by decide +kernel, rfl, by decide +kernel, by decide +kernel⟩
theorem sc_is_word : FnScope ["thing", "letter"] ["thing"] (defScope s_is_word) := ⟨rfl, rfl, rfl, by decide +kernel, rfl, by decide +kernel, by decide +kernel⟩
theorem sc_Mode_is_mode : FnScope ["thing"] ["thing"] (defScope s_Mode_is_mode) := ⟨rfl, rfl, rfl, by decide +kernel, rfl, by decide +kernel, by decide +kernel⟩
theorem sc_Missing___init__ : FnScope ["self", "mode"] ["self", "mode"] (defScope s_Missing___init__) := ⟨rfl, rfl, rfl, by decide +kernel, rfl, by decide +kernel, by decide +kernel⟩
theorem sc_Present___init__ : FnScope ["self", "mode"] ["self", "mode"] (defScope s_Present___init__) := ⟨rfl, rfl, rfl, by decide +kernel, rfl, by decide +kernel, by decide +kernel⟩
theorem sc_Doomed___init__ : FnScope ["self", "first"] ["self", "first"] (defScope s_Doomed___init__) := ⟨rfl, rfl, rfl, by decide +kernel, rfl, by decide +kernel, by decide +kernel⟩
theorem sc_Waits___init__ : FnScope ["self", "record"] ["self", "record"] (defScope s_Waits___init__) := ⟨rfl, rfl, rfl, by decide +kernel, rfl, by decide +kernel, by decide +kernel⟩
theorem sc_BadWord___init__ : FnScope ["self", "word"] ["self", "word"] (defScope s_BadWord___init__) := ⟨rfl, rfl, rfl, by decide +kernel, rfl, by decide +kernel, by decide +kernel⟩
theorem sc_Refused___init__ : FnScope ["self"] ["self"] (defScope s_Refused___init__) := ⟨rfl, rfl, rfl, by decide +kernel, rfl, by decide +kernel, by decide +kernel⟩
theorem sc_Failed___init__ : FnScope ["self", "word"] ["self", "word"] (defScope s_Failed___init__) := ⟨rfl, rfl, rfl, by decide +kernel, rfl, by decide +kernel, by decide +kernel⟩
theorem sc_Write___init__ : FnScope ["self", "record", "value", "holder"] ["self", "record", "value", "holder"] (defScope s_Write___init__) := ⟨rfl, rfl, rfl, by decide +kernel, rfl, by decide +kernel, by decide +kernel⟩
theorem sc_Transaction___init__ : FnScope ["self"] ["self"] (defScope s_Transaction___init__) := ⟨rfl, rfl, rfl, by decide +kernel, rfl, by decide +kernel, by decide +kernel⟩
theorem sc_Database___init__ : FnScope ["self"] ["self"] (defScope s_Database___init__) := ⟨rfl, rfl, rfl, by decide +kernel, rfl, by decide +kernel, by decide +kernel⟩
theorem sc_Transaction_doom : FnScope ["self", "first"] ["self", "first"] (defScope s_Transaction_doom) := ⟨rfl, rfl, rfl, by decide +kernel, rfl, by decide +kernel, by decide +kernel⟩
theorem sc_Database__enter_free : FnScope ["self", "mode"] ["self", "mode"] (defScope s_Database__enter_free) := ⟨rfl, rfl, rfl, by decide +kernel, rfl, by decide +kernel, by decide +kernel⟩
theorem sc_Database__enter_present : FnScope ["self", "mode", "present"] ["self", "mode", "present"] (defScope s_Database__enter_present) := ⟨rfl, rfl, rfl, by decide +kernel, rfl, by decide +kernel, by decide +kernel⟩
theorem sc_Database_enter : FnScope ["self", "mode", "before", "effect"] ["self", "mode"] (defScope s_Database_enter) := ⟨rfl, rfl, rfl, by decide +kernel, rfl, by decide +kernel, by decide +kernel⟩
theorem sc_Database_reason : FnScope ["self"] ["self"] (defScope s_Database_reason) := ⟨rfl, rfl, rfl, by decide +kernel, rfl, by decide +kernel, by decide +kernel⟩
theorem sc_Database_is_doomed : FnScope ["self"] ["self"] (defScope s_Database_is_doomed) := ⟨rfl, rfl, rfl, by decide +kernel, rfl, by decide +kernel, by decide +kernel⟩
theorem sc_Database_is_open : FnScope ["self"] ["self"] (defScope s_Database_is_open) := ⟨rfl, rfl, rfl, by decide +kernel, rfl, by decide +kernel, by decide +kernel⟩
theorem sc_Database_levels : FnScope ["self"] ["self"] (defScope s_Database_levels) := ⟨rfl, rfl, rfl, by decide +kernel, rfl, by decide +kernel, by decide +kernel⟩
theorem sc_Database_depth : FnScope ["self"] ["self"] (defScope s_Database_depth) := ⟨rfl, rfl, rfl, by decide +kernel, rfl, by decide +kernel, by decide +kernel⟩
theorem sc_Database__undo : FnScope ["self", "transaction", "start", "write", "same"] ["self", "transaction", "start"] (defScope s_Database__undo) := ⟨rfl, rfl, rfl, by decide +kernel, rfl, by decide +kernel, by decide +kernel⟩
theorem sc_Database__keep : FnScope ["self", "transaction", "write"] ["self", "transaction"] (defScope s_Database__keep) := ⟨rfl, rfl, rfl, by decide +kernel, rfl, by decide +kernel, by decide +kernel⟩
theorem sc_Database__end_level : FnScope ["self", "transaction", "error", "commits", "start", "first"] ["self", "transaction", "error", "commits"] (defScope s_Database__end_level) := ⟨rfl, rfl, rfl, by decide +kernel, rfl, by decide +kernel, by decide +kernel⟩
theorem sc_Database__end_block : FnScope ["self", "error", "commits", "effect", "before", "present"] ["self", "error", "commits"] (defScope s_Database__end_block) := ⟨rfl, rfl, rfl, by decide +kernel, rfl, by decide +kernel, by decide +kernel⟩
theorem sc_Database__leave_above : FnScope ["self", "floor", "word"] ["self", "floor", "word"] (defScope s_Database__leave_above) := ⟨rfl, rfl, rfl, by decide +kernel, rfl, by decide +kernel, by decide +kernel⟩
theorem sc_Database_leave : FnScope ["self", "error", "commits", "first", "ending"] ["self", "error", "commits"] (defScope s_Database_leave) := ⟨rfl, rfl, rfl, by decide +kernel, rfl, by decide +kernel, by decide +kernel⟩
theorem sc_Database_doom : FnScope ["self", "first"] ["self", "first"] (defScope s_Database_doom) := ⟨rfl, rfl, rfl, by decide +kernel, rfl, by decide +kernel, by decide +kernel⟩
theorem sc_Database__is_holder : FnScope ["self", "record"] ["self", "record"] (defScope s_Database__is_holder) := ⟨rfl, rfl, rfl, by decide +kernel, rfl, by decide +kernel, by decide +kernel⟩
theorem sc_Database_holds : FnScope ["self", "record"] ["self", "record"] (defScope s_Database_holds) := ⟨rfl, rfl, rfl, by decide +kernel, rfl, by decide +kernel, by decide +kernel⟩
theorem sc_Database_has_suspended : FnScope ["self", "record"] ["self", "record"] (defScope s_Database_has_suspended) := ⟨rfl, rfl, rfl, by decide +kernel, rfl, by decide +kernel, by decide +kernel⟩
theorem sc_Database_held_records : FnScope ["self", "record"] ["self"] (defScope s_Database_held_records) := ⟨rfl, rfl, rfl, by decide +kernel, rfl, by decide +kernel, by decide +kernel⟩
theorem sc_Database_outer_records : FnScope ["self", "record"] ["self"] (defScope s_Database_outer_records) := ⟨rfl, rfl, rfl, by decide +kernel, rfl, by decide +kernel, by decide +kernel⟩
theorem sc_law_enter : FnScope ["db", "mode"] ["db", "mode"] (defScope s_law_enter) := ⟨rfl, rfl, rfl, by decide +kernel, rfl, by decide +kernel, by decide +kernel⟩
theorem sc_law_bare : FnScope ["db"] ["db"] (defScope s_law_bare) := ⟨rfl, rfl, rfl, by decide +kernel, rfl, by decide +kernel, by decide +kernel⟩
theorem sc_law_ways : FnScope ["pool", "modes", "chosen", "leaves", "word", "k"] ["pool", "modes"] (defScope s_law_ways) := ⟨rfl, rfl, rfl, by decide +kernel, rfl, by decide +kernel, by decide +kernel⟩
theorem sc_Database_within : FnScope ["self", "mode", "deed", "keep", "commits", "floor", "told", "problem", "error"] ["self", "mode", "deed", "keep", "commits"] (defScope s_Database_within) := ⟨rfl, rfl, rfl, by decide +kernel, rfl, by decide +kernel, by decide +kernel⟩
theorem sc_law_call : FnScope ["db", "mode", "ways", "listed", "notes", "_law_deed", "told", "e"] ["db", "mode", "ways", "listed", "notes"] (defScope s_law_call) := ⟨rfl, rfl, rfl, by decide +kernel, rfl, by decide +kernel, by decide +kernel⟩
theorem sc_law : FnScope ["script", "modes", "at", "pool", "db", "notes", "turn", "before", "ways", "mode", "listed", "told"] ["script"] (defScope s_law) := ⟨rfl, rfl, rfl, by decide +kernel, rfl, by decide +kernel, by decide +kernel⟩
/-- the built-in names that no line of the text binds -/
structure Bn (mg : Str → Option Value) : Prop where
  int : mg "int" = none
  len : mg "len" = none
  abs : mg "abs" = none
  range : mg "range" = none
  max : mg "max" = none
  min : mg "min" = none
  isi : mg "isinstance" = none
  str : mg "str" = none
  all : mg "all" = none
  sorted : mg "sorted" = none
  bool : mg "bool" = none
  set : mg "set" = none
  list : mg "list" = none
end IC
namespace IC
open PySem L2 TL
section
variable {P : Program} {w : World} {K : PySem.W.Frag} {mg : Str → Option Value} {base : Heap}
theorem ok_draw {f : Addr} {fd : FuncData} (F : Fun K "_law_draw" "_law_draw" s_law_draw f fd) (T : Bn mg) : FnOk P w K mg base CX0 1 f fd ["pool", "many"] spDraw := by
  refine F.ok sc_law_draw (fun vs H Q E h => ?_) (fun cdv A outer s H vs Q E hr h => ?_)
  · obtain ⟨p, m, n, rfl, _⟩ := h
    rfl
  · obtain ⟨p, m, n, rfl, ⟨a, b, c, hp, a0, b0, b1, c0, c1⟩, hn, m0, m1, k⟩ := h
    refine ⟨_, (pss_cons (ps_if (pt_cmpR op_gt (pe_ix ix_list (pv 0) pe_int (fun _ _ => rfl)) pe_int (nomark _))
  (pss_cons (ps_set (i := 2) sc_law_draw.nd rfl (Or.inl rfl) (pe_op op_mod (pe_callTy call_int1 (by rfl) T.int (by decide +kernel) (pa_cons (pe_ix ix_list (pv 0) pe_int (fun _ _ => rfl)) pa_nil)) (pv 1)))
  (pss_cons (ps_asg (pe_op op_fdivW (pe_ix ix_list (pv 0) pe_int (fun _ _ => rfl)) (pv 1)) (pg_sub (pv 0) pe_int set_list))
  (pss_one (ps_ret (pv 2)))))
  pss_nil)
  (pss_cons (ps_set (i := 3) sc_law_draw.nd rfl (Or.inl rfl) (pe_op op_add (pe_ix ix_list (pv 0) pe_int (fun _ _ => rfl)) pe_int))
  (pss_cons (ps_asg (pv 3) (pg_sub (pv 0) pe_int set_list))
  (pss_cons (ps_set (i := 4) sc_law_draw.nd rfl (Or.inl rfl) (pe_op op_mod (pe_callTy call_int1 (by rfl) T.int (by decide +kernel) (pa_cons (pe_op op_add (pe_op op_pow (pe_op op_add (pe_ix ix_list (pv 0) pe_int (fun _ _ => rfl)) (pe_op op_mul pe_int (pv 3))) pe_int) (pe_op op_mul pe_int (pv 3))) pa_nil)) pe_int))
  (pss_cons (ps_set (i := 4) sc_law_draw.nd rfl (Or.inl rfl) (pe_op op_mod (pe_callTy call_int1 (by rfl) T.int (by decide +kernel) (pa_cons (pe_op op_pow (pe_op op_add (pv 4) (pe_op op_mul pe_int (pv 3))) pe_int) pa_nil)) pe_int))
  (pss_one (ps_ret (pe_op op_mod (pe_callTy call_int1 (by rfl) T.int (by decide +kernel) (pa_cons (pe_op op_fdiv (pv 4) pe_int) pa_nil)) (pv 1))))))))), ?_⟩
    have g0 : atI (pl a b c) 0 = some (.int a) := rfl
    have g1 : atI (pl a b c) 1 = some (.int b) := rfl
    have g2 : atI (pl a b c) 2 = some (.int c) := rfl
    refine ⟨_, rfl, p, pl a b c, 0, _, rfl, rfl, SqL.of hp, g0, a, 0, rfl, rfl, _, rfl, ?_⟩
    refine ite2 (fun hpos => ?_) (fun hneg => ?_)
    · refine ⟨_, rfl, p, pl a b c, 0, _, rfl, rfl, SqL.of hp, g0, .inl ⟨a, rfl, _, rfl, a, m, rfl, rfl, m0, ?_⟩⟩
      refine ⟨_, rfl, p, pl a b c, 0, _, rfl, rfl, SqL.of hp, g0, _, rfl, a, m, rfl, rfl, wide_div m0 m1 (by decide) (by decide), _, rfl, p, pl a b c, 0, 0, rfl, rfl, hp, rfl, ?_⟩
      refine ⟨_, rfl, ?_⟩
      refine k (a % m) _ (Int.emod_nonneg _ (by omega)) (Int.emod_lt_of_pos _ m0) ⟨a / m, b, c, upd_same, Int.ediv_nonneg a0 (by omega), b0, b1, c0, by omega⟩
    · refine ⟨_, rfl, p, pl a b c, 2, _, rfl, rfl, SqL.of hp, g2, c, 1, rfl, rfl, ?_⟩
      refine ⟨_, rfl, _, rfl, p, pl a b c, 2, 2, rfl, rfl, hp, rfl, ?_⟩
      have g1' : atI ((pl a b c).set 2 (.int (c + 1))) 1 = some (.int b) := rfl
      refine ⟨_, rfl, p, _, 1, _, rfl, rfl, SqL.of upd_same, g1', _, rfl, 48611, c + 1, rfl, rfl, .inl (by decide), b, _, rfl, rfl, _, 3, rfl, rfl, ⟨by decide, by decide, by omega⟩, _, rfl, 17, c + 1, rfl, rfl, .inl (by decide), _, _, rfl, rfl, .inl ⟨_, rfl, _, _, rfl, rfl, (by show (0 : Int) < 2305843009213693921; decide), ?_⟩⟩
      have hX : 0 ≤ ((b + 48611 * (c + 1)) ^ Int.toNat 3 + 17 * (c + 1)) % 2305843009213693921 ∧ ((b + 48611 * (c + 1)) ^ Int.toNat 3 + 17 * (c + 1)) % 2305843009213693921 < 2305843009213693921 :=
        ⟨Int.emod_nonneg _ (by decide), Int.emod_lt_of_pos _ (by decide)⟩
      dsimp only
      generalize ((b + 48611 * (c + 1)) ^ Int.toNat 3 + 17 * (c + 1)) % 2305843009213693921 = X at hX ⊢
      obtain ⟨x0, x1⟩ := hX
      refine ⟨_, rfl, _, rfl, 104729, c + 1, rfl, rfl, .inl (by decide), X, _, rfl, rfl, _, 3, rfl, rfl, ⟨by decide, by decide, by omega⟩, .inl ⟨_, rfl, _, _, rfl, rfl, (by show (0 : Int) < 1000000000000000003; decide), ?_⟩⟩
      have hY : 0 ≤ (X + 104729 * (c + 1)) ^ Int.toNat 3 % 1000000000000000003 := Int.emod_nonneg _ (by decide)
      refine ⟨_, rfl, _, _, rfl, rfl, ⟨by decide, by decide⟩, .inl ⟨_, rfl, _, rfl, _, m, rfl, rfl, m0, ?_⟩⟩
      refine k _ _ (Int.emod_nonneg _ (by omega)) (Int.emod_lt_of_pos _ m0) ⟨a, b, c + 1, upd_same, a0, b0, b1, by omega, by omega⟩
theorem ok_pool {f : Addr} {fd : FuncData} (F : Fun K "_law_pool" "_law_pool" s_law_pool f fd) (T : Bn mg) : FnOk P w K mg base CX0 1 f fd ["script", "at"] (spPool K) := by
  refine F.ok sc_law_pool (fun vs H Q E h => ?_) (fun cdv A outer s H vs Q E hr h => ?_)
  · obtain ⟨a, ns, j, rfl, _⟩ := h
    rfl
  · obtain ⟨a, ns, j, rfl, hS, hj, k⟩ := h
    refine ⟨_, (Evl.pss_cut (ps_set (i := 2) sc_law_pool.nd rfl (Or.inl rfl) (pe_ifExp (pt_cmpR op_lt (pv 1) (pe_callB call_len_seq (by rfl) T.len PySem.boot_len (pa_cons (pv 0) pa_nil)) (nomark _)) (pe_ix ix_list (pv 0) (pv 1) (fun _ _ => rfl)) pe_int))
  (pss_cons (ps_set (i := 3) sc_law_pool.nd rfl (Or.inl rfl) (pe_callB call_abs (by rfl) T.abs PyProof.Rows.boot_abs (pa_cons (pv 2) pa_nil)))
  (pss_cons (ps_set (i := 4) sc_law_pool.nd rfl (Or.inl rfl) (pe_op op_mod (pe_callTy call_int1 (by rfl) T.int (by decide +kernel) (pa_cons (pe_op op_add (pe_op op_add (pe_op op_mul (pv 3) pe_int) (pe_op op_mul pe_int (pv 1))) (pe_callTy call_int1 (by rfl) T.int (by decide +kernel) (pa_cons (pe_cmpR op_lt (pv 2) pe_int (nomark _)) pa_nil))) pa_nil)) pe_int))
  (pss_one (ps_ret (pe_lst (pa_cons (pe_ifExp (pt_cmpR op_ge (pv 3) (pe_op op_pow pe_int pe_int) (nomark _)) (pv 3) pe_int) (pa_cons (pe_op op_add (pv 4) pe_int) (pa_cons pe_int pa_nil))))))))), ?_⟩
    have hj' : (j : Int) < 64 := by omega
    refine ⟨fun σ H' => H' = H ∧ ∃ c : Int, σ = [some (.ref a), some (.int j), some (.int c), none, none], ?_, ?_⟩
    · refine ⟨_, rfl, _, rfl, a, _, rfl, .inl hS, _, _, rfl, rfl, _, rfl, ?_⟩
      refine ite2 (fun hlt => ?_) (fun _ => ⟨rfl, 0, rfl⟩)
      have hlt := of_decide_eq_true hlt
      have hl : j < ns.length := by
        rw [List.length_map] at hlt
        exact Int.ofNat_lt.mp hlt
      have hz : (ns.map V.int)[j]? = some (V.int ns[j]) := by
        rw [List.getElem?_map, List.getElem?_eq_getElem hl]
        rfl
      exact ⟨_, rfl, _, rfl, a, _, _, _, rfl, rfl, hS, atI_nat hz, rfl, _, rfl⟩
    · rintro σ H' ⟨rfl, c, rfl⟩
      refine ⟨_, rfl, c, rfl, ?_⟩
      refine ⟨_, rfl, _, 6, rfl, rfl, .inr (by decide), _, rfl, 2, j, rfl, rfl, .inl (by decide), _, _, rfl, rfl, _, rfl, c, 0, rfl, rfl, .inr ⟨_, rfl, _, _, rfl, rfl, .inl ⟨_, rfl, _, _, rfl, rfl, (by show (0 : Int) < 2305843009213693951; decide), ?_⟩⟩⟩
      refine ⟨_, rfl, 10, 18, rfl, rfl, ⟨by decide, by decide, by decide⟩, _, _, rfl, rfl, _, rfl, ?_⟩
      have h0 : (0 : Int) ≤ if c < 0 then -c else c := by split <;> omega
      have fin : ∀ x y : Int, 0 ≤ x → ∀ p, H' p = none → Q (.ref p) (upd H' p (.lst [.int x, .int (y % 2305843009213693951 + 12345), .int 0])) := fun x y hx p hp => by
        have e1 := Int.emod_nonneg y (show (2305843009213693951 : Int) ≠ 0 by decide)
        have e2 := Int.emod_lt_of_pos y (show (0 : Int) < 2305843009213693951 by decide)
        exact k p _ hp ⟨x, _, 0, upd_same, hx, by omega, by omega, by omega, by omega⟩
      refine ite2 (fun _ => ?_) (fun _ => ?_)
      · exact ⟨_, rfl, _, rfl, _, _, rfl, rfl, (by show 3 ≤ sizeLine; decide), fun p hp => fin _ _ h0 p hp⟩
      · exact ⟨_, rfl, _, _, rfl, rfl, (by show 3 ≤ sizeLine; decide), fun p hp => fin 0 _ (by decide) p hp⟩
end
end IC
namespace IC
open PySem L2 TL
section
variable {P : Program} {w : World} {K : PySem.W.Frag} {mg : Str → Option Value} {base : Heap}
theorem ok_word {f : Addr} {fd : FuncData} (F : Fun K "_law_word" "_law_word" s_law_word f fd) (T : Bn mg) (D_law_draw : Df P w K mg base 1 "_law_draw" ["pool", "many"] spDraw) : FnOk P w K mg base CX0 2 f fd ["pool"] spWord := by
  refine F.ok sc_law_word (fun vs H Q E h => ?_) (fun cdv A outer s H vs Q E hr h => ?_)
  · obtain ⟨p, n, rfl, _⟩ := h
    rfl
  · obtain ⟨p, n, rfl, hp, hn, k⟩ := h
    refine ⟨_, (pss_cons (ps_set (i := 1) sc_law_word.nd rfl (Or.inr rfl) pe_str)
  (pss_one (ps_ret (pe_join pe_str (pe_lc (own := [("k", 2)]) (g := gName 2) (tt := tYes) rfl sc_law_word.nd (pi_range1 rfl T.range (pa_cons (pe_op op_add pe_int (pe_df D_law_draw hr (by decide) rfl (pa_cons (pv 0) (pa_cons pe_int pa_nil)))) pa_nil)) (blkOk_by (N := ["pool", "letters", "k"]) (sc := defScope s_law_word) (by decide +kernel)) (fun _ _ _ _ _ => pg_name (i := 2) sc_law_word.nd rfl (Or.inl rfl)) (fun _ _ _ _ _ => pts_nil) (fun _ _ _ _ _ => (pe_ix ix_str (pv 1) (pe_df D_law_draw hr (by decide) rfl (pa_cons (pv 0) (pa_cons pe_int pa_nil))) (fun _ _ => rfl)))))))), ?_⟩
    refine ⟨⟨_, rfl⟩, _, rfl, p, 8, n, rfl, hp, by omega, by decide, by decide, fun d o d0 d8 hp1 => ⟨_, _, rfl, rfl, _, rfl, by omega, by omega, fun D hD => ?_⟩⟩
    obtain ⟨hpD, hDn⟩ := none_of hD
    refine lc_range (lo := 0) (n := (1 + d).toNat) (fun i H' => ∃ cs : List Nat, cs.length = i ∧ (∀ c ∈ cs, Lt c) ∧ H' D = some (.lst ((cs.map sgn).map V.str)) ∧ PoolAt H' p (n + 1 + i) ∧ Kp [p] H H')
      ⟨[], rfl, by simp, upd_same, (hp1.mv fun u e => by rw [upd_ne hpD]; exact e).up (by omega), (Kp.at_ (by simp)).trans (Kp.new hD)⟩ ?_ ?_
    · rintro i H' hi ⟨cs, hl, hc, hcD, hp2, kp⟩
      refine ⟨rfl, ?_⟩
      refine ⟨_, rfl, _, rfl, p, 26, n + 1 + i, rfl, hp2, by omega, by decide, by decide, fun e o2 e0 e1 hp3 => ?_⟩
      obtain ⟨c, hat, hL⟩ := abc_at e e0 e1
      refine ⟨_, e, c, rfl, rfl, by decide +kernel, hat, ?_⟩
      refine ⟨_, (by rw [upd_ne hpD.symm]; exact hcD), small1000 (by rw [List.length_map, List.length_map]; omega), cs ++ [c], by simp [hl], ?_, ?_, ?_, (kp.mutAt (by simp)).mut hDn⟩
      · intro x hx
        rcases List.mem_append.mp hx with hx | hx
        · exact hc x hx
        · rw [List.mem_singleton.mp hx]; exact hL
      · rw [upd_same, List.map_append, List.map_append]
        rfl
      · exact (hp3.mv fun u q => by rw [upd_ne hpD]; exact q).up (by omega)
    · rintro H' ⟨cs, hl, hc, hcD, hp2, kp⟩
      refine ⟨_, D, cs.map sgn, rfl, rfl, .inl (SqL.of hcD), ?_, ?_⟩
      · have e : (List.map (fun z : Str => z.length) (cs.map sgn)).sum = cs.length := by
          rw [List.map_map]
          clear hl hc hcD hp2 kp
          induction cs with
          | nil => rfl
          | cons c r ih => rw [List.map_cons, List.sum_cons, ih, List.length_cons]; show 1 + r.length = r.length + 1; omega
        rw [e, List.length_map, hl]
        show (1 + d).toNat + (1 + d).toNat * 0 ≤ 16777216
        omega
      · have et := tl_joined cs
        refine k _ H' ⟨?_, ?_, ?_⟩ (hp2.up (by omega)) kp
        · rw [et, hl]; omega
        · rw [et, hl]; omega
        · rw [et]; exact hc
end
end IC
namespace IC
open PySem L2 TL
section
variable {P : Program} {w : World} {K : PySem.W.Frag} {mg : Str → Option Value} {base : Heap}
theorem ok_is_mode {f C p t : Addr} {mc : Value} {fd : FuncData} (F : Fun K "is_mode" "Mode.is_mode" s_Mode_is_mode f fd) (T : Bn mg) (M : ModeTxt K mg C p f t mc) : FnOk P w K mg base CX0 1 f fd ["thing"] (spIsMode K) := by
  refine F.ok sc_Mode_is_mode (fun vs H Q E h => ?_) (fun cdv A outer s H vs Q E hr h => ?_)
  · obtain ⟨v, rfl, _⟩ := h
    rfl
  · obtain ⟨v, rfl, h⟩ := h
    refine ⟨_, (pss_one (ps_ret (pe_and (pe_callB call_isi (by rfl) T.isi PyProof.Rows.boot_isinstance (pa_cons (pv 0) (pa_cons (pe_bltn (v := .ty "str") (by rfl) T.str (by decide +kernel) rfl) pa_nil))) (pe_one (pe_cmpR op_in_seq (pv 0) (ClX.pe_cval (pe_glob (v := .ref _) rfl M.mo rfl)) (by rfl)))))), ?_⟩
    rcases h with ⟨z, rfl, k⟩ | ⟨⟨T', ty, kb⟩, k⟩
    · refine ⟨_, rfl, .str z, .ty "str", .type "str", .type "str", true, rfl, .ty "str", .base (.str z), kit_ty (by decide +kernel), true, rfl, ?_⟩
      exact ⟨_, rfl, C, mc, _, _, rfl, M.rd, M.all, t, modesV, rfl, .inr (M.seq H), rfl, modes_flat, k⟩
    · refine ⟨_, rfl, v, .ty "str", .type T', .type "str", false, rfl, .ty "str", ty, kit_ty kb, false, rfl, ?_⟩
      exact k
end
end IC
namespace IC
open PySem L2 TL
section
variable {P : Program} {w : World} {K : PySem.W.Frag} {mg : Str → Option Value} {base : Heap}
theorem ok_is_word {f : Addr} {fd : FuncData} (F : Fun K "is_word" "is_word" s_is_word f fd) (T : Bn mg) : FnOk P w K mg base CX0 1 f fd ["thing"] (spIsWord K) := by
  refine F.ok sc_is_word (fun vs H Q E h => ?_) (fun cdv A outer s H vs Q E hr h => ?_)
  · obtain ⟨v, rfl, _⟩ := h
    rfl
  · obtain ⟨v, rfl, h⟩ := h
    refine ⟨_, (pss_cons (ps_if (PW.pt (pw_or (pt_not (pt_val (pe_callB call_isi (by rfl) T.isi PyProof.Rows.boot_isinstance (pa_cons (pv 0) (pa_cons (pe_bltn (v := .ty "str") (by rfl) T.str (by decide +kernel) rfl) pa_nil))))) (pw_or1 (pt_not (pt_chain op_le op_le pe_int (pe_callB call_len_str (by rfl) T.len PySem.boot_len (pa_cons (pv 0) pa_nil)) pe_int)))))
  (pss_one (ps_ret pe_bl))
  pss_nil)
  (pss_one (ps_ret (pe_callB (cr_all rfl) (by rfl) T.all (by decide +kernel) (pa_cons (pe_lc (own := [("letter", 1)]) (g := gName 1) (tt := tYes) rfl sc_is_word.nd (pi_str (pv 0)) (blkOk_by (N := ["thing", "letter"]) (sc := defScope s_is_word) (by decide +kernel)) (fun _ _ _ _ _ => pg_name (i := 1) sc_is_word.nd rfl (Or.inl rfl)) (fun _ _ _ _ _ => pts_nil) (fun _ _ _ _ _ => (pe_chain op_le_str op_le_str pe_str (pv 1) pe_str))) pa_nil))))), ?_⟩
    rcases h with ⟨z, rfl, hl, k⟩ | ⟨⟨T', ty, kb⟩, k⟩
    · refine ⟨_, rfl, .str z, .ty "str", .type "str", .type "str", true, rfl, .ty "str", .base (.str z), kit_ty (by decide +kernel), true, rfl, ?_⟩
      refine ⟨_, rfl, z, rfl, len_le hl, 1, z.length, rfl, rfl, _, rfl, ?_⟩
      refine ite2 (fun h1 => ?_) (fun h1 => ?_)
      · have h1 := of_decide_eq_true h1
        refine ⟨_, _, rfl, rfl, _, rfl, ?_⟩
        cases hd : decide ((z.length : Int) ≤ 8) with
        | true =>
          refine ⟨_, rfl, z, rfl, fun D hD => ?_⟩
          have hz : z.cps.size = (tl z).length := by simp [tl]
          refine lc_it (walk_str (z := z)) (fun i H' => H' D = some (.lst (((tl z).take i).map fun c => V.bl (lB c))) ∧ Same H H') ⟨upd_same, Same.new hD⟩ (fun _ _ _ _ => trivial) ?_ ?_
          · rintro i x _ H' hi ⟨hcD, sm⟩ ⟨rfl, c, hc, rfl⟩
            have hc' : (tl z)[i]? = some c := by simpa [tl] using hc
            have fin : ∃ acc, H' D = some (.lst acc) ∧ acc.length < sizeLine ∧ upd H' D (.lst (acc ++ [V.bl (lB c)])) D = some (.lst (((tl z).take (i + 1)).map fun c => V.bl (lB c))) ∧ Same H (upd H' D (.lst (acc ++ [V.bl (lB c)]))) := by
              refine ⟨_, hcD, small1000 (by rw [List.length_map, List.length_take]; omega), ?_, ?_⟩
              · rw [upd_same, List.take_add_one, hc', List.map_append]
                rfl
              · exact fun b o e => by rw [upd_ne (ne_of_none e hD)]; exact sm b o e
            refine ⟨rfl, ?_⟩
            refine ⟨_, rfl, _, _, rfl, rfl, _, rfl, ?_⟩
            rw [lt_a c]
            unfold lB at fin
            cases h97 : decide (97 ≤ c) with
            | true =>
              rw [h97] at fin
              refine ⟨_, _, rfl, rfl, ?_⟩
              rw [z_lt c, Bool.not_not]
              exact fin
            | false =>
              rw [h97] at fin
              exact fin
          · rintro H' ⟨hcD, sm⟩
            have e : wB z = (((tl z).map lB).all id) := by
              have h8 := of_decide_eq_true hd
              rw [len_tl] at h1 h8
              unfold wB
              rw [decide_eq_true (by omega), decide_eq_true (by omega), Bool.true_and, Bool.true_and, List.all_map]
              rfl
            refine ⟨D, (tl z).map lB, rfl, SqL.of ?_, ?_⟩
            · rw [hcD, hz, List.take_length, List.map_map]
              rfl
            · have q := k H' sm
              rw [e] at q
              exact q
        | false =>
          have e : wB z = false := by
            have q := of_decide_eq_false hd
            rw [len_tl] at q
            unfold wB
            rw [decide_eq_false (p := (tl z).length ≤ 8) (by omega), Bool.false_and, Bool.and_false]
          have q := k H (Same.refl H)
          rw [e] at q
          exact q
      · rw [Bool.not_eq_true] at h1
        have e : wB z = false := by
          have q := of_decide_eq_false h1
          rw [len_tl] at q
          unfold wB
          rw [decide_eq_false (by omega)]
          rfl
        have q := k H (Same.refl H)
        rw [e] at q
        exact ⟨_, rfl, q⟩
    · refine ⟨_, rfl, v, .ty "str", .type T', .type "str", false, rfl, .ty "str", ty, kit_ty kb, false, rfl, ?_⟩
      exact k H (Same.refl H)
end
end IC
namespace IC
open PySem L2 TL
section
variable {P : Program} {w : World} {K : PySem.W.Frag} {mg : Str → Option Value} {base : Heap}
theorem ok_Missing {f C : Addr} {fd : FuncData} (F : Fun K "__init__" "Missing.__init__" s_Missing___init__ f fd) (O : OexC K C) (n1 : PySem.W.findIn K (.ref C) "mode" = some none) (n2 : PySem.W.findIn K (.ref C) "word" = some none) :
    FnOk P w K mg base CX0 1 f fd ["self", "mode"] (spErr C fsM) := by
  refine F.ok sc_Missing___init__ (fun vs H Q E h => ?_) (fun cdv A outer s H vs Q E hr h => ?_)
  · obtain ⟨a, v, rfl, _⟩ := h
    rfl
  · obtain ⟨a, v, rfl, ea, k⟩ := h
    refine ⟨_, (pss_cons (ps_ost (pv 0) (pv 1))
  (pss_one (ps_ost (pv 0) pe_str))), ?_⟩
    refine ⟨_, rfl, _, rfl, a, C, rfl, O, n1, .inl ⟨ea, fun d nd ne => ?_⟩⟩
    refine ⟨_, rfl, a, C, rfl, O, n2, .inr ⟨d, _, upd_same, (by rw [upd_ne ne, upd_same]), (by show 1 ≤ 900; decide), ?_⟩⟩
    exact k d _ nd ne (by rw [upd_ne ne.symm, upd_same]) upd_same (fun b h1 h2 => by rw [upd_ne h2, upd_ne h1, upd_ne h2])
end
end IC
namespace IC
open PySem L2 TL
section
variable {P : Program} {w : World} {K : PySem.W.Frag} {mg : Str → Option Value} {base : Heap}
theorem ok_Present {f C : Addr} {fd : FuncData} (F : Fun K "__init__" "Present.__init__" s_Present___init__ f fd) (O : OexC K C) (n1 : PySem.W.findIn K (.ref C) "mode" = some none) (n2 : PySem.W.findIn K (.ref C) "word" = some none) :
    FnOk P w K mg base CX0 1 f fd ["self", "mode"] (spErr C fsP) := by
  refine F.ok sc_Present___init__ (fun vs H Q E h => ?_) (fun cdv A outer s H vs Q E hr h => ?_)
  · obtain ⟨a, v, rfl, _⟩ := h
    rfl
  · obtain ⟨a, v, rfl, ea, k⟩ := h
    refine ⟨_, (pss_cons (ps_ost (pv 0) (pv 1))
  (pss_one (ps_ost (pv 0) pe_str))), ?_⟩
    refine ⟨_, rfl, _, rfl, a, C, rfl, O, n1, .inl ⟨ea, fun d nd ne => ?_⟩⟩
    refine ⟨_, rfl, a, C, rfl, O, n2, .inr ⟨d, _, upd_same, (by rw [upd_ne ne, upd_same]), (by show 1 ≤ 900; decide), ?_⟩⟩
    exact k d _ nd ne (by rw [upd_ne ne.symm, upd_same]) upd_same (fun b h1 h2 => by rw [upd_ne h2, upd_ne h1, upd_ne h2])
end
end IC
namespace IC
open PySem L2 TL
section
variable {P : Program} {w : World} {K : PySem.W.Frag} {mg : Str → Option Value} {base : Heap}
theorem ok_Doomed {f C : Addr} {fd : FuncData} (F : Fun K "__init__" "Doomed.__init__" s_Doomed___init__ f fd) (O : OexC K C) (n1 : PySem.W.findIn K (.ref C) "first" = some none) (n2 : PySem.W.findIn K (.ref C) "word" = some none) :
    FnOk P w K mg base CX0 1 f fd ["self", "first"] (spErr C fsD) := by
  refine F.ok sc_Doomed___init__ (fun vs H Q E h => ?_) (fun cdv A outer s H vs Q E hr h => ?_)
  · obtain ⟨a, v, rfl, _⟩ := h
    rfl
  · obtain ⟨a, v, rfl, ea, k⟩ := h
    refine ⟨_, (pss_cons (ps_ost (pv 0) (pv 1))
  (pss_one (ps_ost (pv 0) pe_str))), ?_⟩
    refine ⟨_, rfl, _, rfl, a, C, rfl, O, n1, .inl ⟨ea, fun d nd ne => ?_⟩⟩
    refine ⟨_, rfl, a, C, rfl, O, n2, .inr ⟨d, _, upd_same, (by rw [upd_ne ne, upd_same]), (by show 1 ≤ 900; decide), ?_⟩⟩
    exact k d _ nd ne (by rw [upd_ne ne.symm, upd_same]) upd_same (fun b h1 h2 => by rw [upd_ne h2, upd_ne h1, upd_ne h2])
end
end IC
namespace IC
open PySem L2 TL
section
variable {P : Program} {w : World} {K : PySem.W.Frag} {mg : Str → Option Value} {base : Heap}
theorem ok_Waits {f C : Addr} {fd : FuncData} (F : Fun K "__init__" "Waits.__init__" s_Waits___init__ f fd) (O : OexC K C) (n1 : PySem.W.findIn K (.ref C) "record" = some none) (n2 : PySem.W.findIn K (.ref C) "word" = some none) :
    FnOk P w K mg base CX0 1 f fd ["self", "record"] (spErr C fsWt) := by
  refine F.ok sc_Waits___init__ (fun vs H Q E h => ?_) (fun cdv A outer s H vs Q E hr h => ?_)
  · obtain ⟨a, v, rfl, _⟩ := h
    rfl
  · obtain ⟨a, v, rfl, ea, k⟩ := h
    refine ⟨_, (pss_cons (ps_ost (pv 0) (pv 1))
  (pss_one (ps_ost (pv 0) pe_str))), ?_⟩
    refine ⟨_, rfl, _, rfl, a, C, rfl, O, n1, .inl ⟨ea, fun d nd ne => ?_⟩⟩
    refine ⟨_, rfl, a, C, rfl, O, n2, .inr ⟨d, _, upd_same, (by rw [upd_ne ne, upd_same]), (by show 1 ≤ 900; decide), ?_⟩⟩
    exact k d _ nd ne (by rw [upd_ne ne.symm, upd_same]) upd_same (fun b h1 h2 => by rw [upd_ne h2, upd_ne h1, upd_ne h2])
end
end IC
namespace IC
open PySem L2 TL
section
variable {P : Program} {w : World} {K : PySem.W.Frag} {mg : Str → Option Value} {base : Heap}
theorem ok_BadWord {f C : Addr} {fd : FuncData} (F : Fun K "__init__" "BadWord.__init__" s_BadWord___init__ f fd) (O : OexC K C) (n1 : PySem.W.findIn K (.ref C) "word" = some none) : FnOk P w K mg base CX0 1 f fd ["self", "word"] (spErr C fsB) := by
  refine F.ok sc_BadWord___init__ (fun vs H Q E h => ?_) (fun cdv A outer s H vs Q E hr h => ?_)
  · obtain ⟨a, v, rfl, _⟩ := h
    rfl
  · obtain ⟨a, v, rfl, ea, k⟩ := h
    refine ⟨_, (pss_one (ps_ost (pv 0) (pv 1))), ?_⟩
    refine ⟨_, rfl, _, rfl, a, C, rfl, O, n1, .inl ⟨ea, fun d nd ne => ?_⟩⟩
    exact k d _ nd ne upd_same (by rw [upd_ne ne, upd_same]) (fun b h1 h2 => by rw [upd_ne h1, upd_ne h2])
end
end IC
namespace IC
open PySem L2 TL
section
variable {P : Program} {w : World} {K : PySem.W.Frag} {mg : Str → Option Value} {base : Heap}
theorem ok_Refused {f C : Addr} {fd : FuncData} (F : Fun K "__init__" "Refused.__init__" s_Refused___init__ f fd) (O : OexC K C) (n2 : PySem.W.findIn K (.ref C) "word" = some none) : FnOk P w K mg base CX0 1 f fd ["self"] (spErr0 C fsRf) := by
  refine F.ok sc_Refused___init__ (fun vs H Q E h => ?_) (fun cdv A outer s H vs Q E hr h => ?_)
  · obtain ⟨a, rfl, _⟩ := h
    rfl
  · obtain ⟨a, rfl, ea, k⟩ := h
    refine ⟨_, (pss_one (ps_ost (pv 0) pe_str)), ?_⟩
    refine ⟨_, rfl, a, C, rfl, O, n2, .inl ⟨ea, fun d nd ne => ?_⟩⟩
    exact k d _ nd ne upd_same (by rw [upd_ne ne, upd_same]) (fun b h1 h2 => by rw [upd_ne h1, upd_ne h2])
end
end IC
namespace IC
open PySem L2 TL
section
variable {P : Program} {w : World} {K : PySem.W.Frag} {mg : Str → Option Value} {base : Heap}
theorem ok_Failed {f C : Addr} {fd : FuncData} (F : Fun K "__init__" "Failed.__init__" s_Failed___init__ f fd) (O : OexC K C) (n1 : PySem.W.findIn K (.ref C) "word" = some none) : FnOk P w K mg base CX0 1 f fd ["self", "word"] (spErr C fsB) := by
  refine F.ok sc_Failed___init__ (fun vs H Q E h => ?_) (fun cdv A outer s H vs Q E hr h => ?_)
  · obtain ⟨a, v, rfl, _⟩ := h
    rfl
  · obtain ⟨a, v, rfl, ea, k⟩ := h
    refine ⟨_, (pss_one (ps_ost (pv 0) (pv 1))), ?_⟩
    refine ⟨_, rfl, _, rfl, a, C, rfl, O, n1, .inl ⟨ea, fun d nd ne => ?_⟩⟩
    exact k d _ nd ne upd_same (by rw [upd_ne ne, upd_same]) (fun b h1 h2 => by rw [upd_ne h1, upd_ne h2])
end
end IC
namespace IC
open PySem L2 TL
structure WTxt (K : PySem.W.Frag) (c : Cs) (CW : Addr) : Prop where
  cW : Cls K CW
  nR : NoAttr K CW "record"
  nV : NoAttr K CW "value"
  nH : NoAttr K CW "holder"
  nF : NoAttr K CW "fate"
  mT : PySem.W.mroIn K c.T (.type "object") = some true
  sT : PySem.W.findIn K (.ref c.T) "__eq__" = some (some (.builtin "object.__eq__"))
theorem ofR_one (l : List Wr) (x : Wr) (z : Str) : ofR (l ++ [x]) z = if x.r = z then ofR l z ++ [x] else ofR l z := by
  rw [ofR_app]
  unfold ofR
  by_cases e : x.r = z
  · simp [e]
  · simp [e]
/-- the held records behind undoing: those that are still written, and those of other transactions -/
def heldCut (held : List (Str × Addr)) (all now : List Wr) : List (Str × Addr) := held.filter fun z => (!(ofR now z.1).isEmpty) || (ofR all z.1).isEmpty
theorem heldCut_self (held : List (Str × Addr)) (all : List Wr) : heldCut held all all = held := List.filter_eq_self.mpr fun z _ => by
  cases (ofR all z.1).isEmpty <;> rfl
theorem heldCut_snoc {held : List (Str × Addr)} {all now : List Wr} {x : Wr} (hx : x ∈ all) (e : ofR now x.r = []) : (heldCut held all (now ++ [x])).filter (fun z => decide (z.1 ≠ x.r)) = heldCut held all now := by
  unfold heldCut
  rw [List.filter_filter]
  apply List.filter_congr
  intro z _
  by_cases q : z.1 = x.r
  · have n : ofR all z.1 ≠ [] := fun h => by
      have := List.filter_eq_nil_iff.mp h x hx
      exact this (decide_eq_true q.symm)
    have e1 : (ofR all z.1).isEmpty = false := by
      cases h : ofR all z.1 with
      | nil => exact absurd h n
      | cons a b => rfl
    rw [e1, decide_eq_false (not_not_intro q), q, e]
    rfl
  · rw [decide_eq_true q, ofR_one, if_neg fun h => q h.symm]
    rfl
theorem heldCut_keep {held : List (Str × Addr)} {all now : List Wr} {x : Wr} (e : ofR now x.r ≠ []) : heldCut held all (now ++ [x]) = heldCut held all now := by
  unfold heldCut
  apply List.filter_congr
  intro z _
  rw [ofR_one]
  by_cases q : x.r = z.1
  · rw [if_pos q]
    have e1 : (ofR now z.1).isEmpty = false := by
      cases h : ofR now z.1 with
      | nil => exact absurd (by rw [q]; exact h) e
      | cons a b => rfl
    have e2 : (ofR now z.1 ++ [x]).isEmpty = false := by
      cases h : ofR now z.1 with
      | nil => rfl
      | cons a b => rfl
    rw [e1, e2]
  · rw [if_neg q]
theorem mem_cut {held : List (Str × Addr)} {all now : List Wr} {z : Str × Addr} : z ∈ heldCut held all now ↔ z ∈ held ∧ (ofR now z.1 ≠ [] ∨ ofR all z.1 = []) := by
  unfold heldCut
  rw [List.mem_filter]
  refine and_congr_right fun _ => ?_
  rw [Bool.or_eq_true, Bool.not_eq_true']
  refine or_congr ?_ ?_
  · cases ofR now z.1 <;> simp
  · cases ofR all z.1 <;> simp
/-- the lists of the held records of one transaction -/
structure HT (H : Hp) (F : Addr → Prop) (p : DbP) (o : Addr) (held : List (Str × Addr)) (own : List Wr) : Prop where
  all : ∀ x ∈ own, ∃ z ∈ held, z.1 = x.r
  hl : ∀ z ∈ held, ofR own z.1 ≠ [] → H z.2 = some (.lst (refs (ofR own z.1)))
  one : ∀ z ∈ held, ∀ y ∈ held, z.1 = y.1 ∨ z.2 = y.2 → z = y
  nl : ∀ z ∈ held, z.2 ≠ o ∧ z.2 ≠ p.b ∧ z.2 ≠ p.m
  fl : ∀ z ∈ held, F z.2
structure UInv (c : Cs) (CW : Addr) (H H' : Hp) (F : Addr → Prop) (d t : Addr) (p : DbP) (pv : V) (bl : List Addr) (made : List V) (held : List (Str × Addr)) (kept l m m1 m2 : List Wr) (o : Addr) : Prop where
  fr : Fr F F H H'
  db : D3 c CW H' F d p pv bl made (heldCut held (l ++ m) (l ++ m1)) kept
  ho : H' o = some (.lst (refs (l ++ m1)))
  ht : HT H' F p o (heldCut held (l ++ m) (l ++ m1)) (l ++ m1)
  hw : ∀ x ∈ l ++ m, WAt CW H' (.ref t) x
  un : ∀ x ∈ m2, ∃ dx, H' x.a = some (.ins CW dx (wrf x.r x.v (.ref t) (.str "undone")))
  out : ∀ a u, H a = some u → a ≠ o → a ≠ p.h → (∀ x ∈ m, a ≠ x.a) → (∀ z ∈ held, ofR m z.1 ≠ [] → a ≠ z.2) → H' a = some u
/-- the writes m are undone -/
def spUndoG (c : Cs) (CW : Addr) : Sp := fun vs H Q _ => ∃ (d t : Addr) (p : DbP) (pv : V) (bl : List Addr) (made : List V) (held : List (Str × Addr)) (kept l m : List Wr) (F : Addr → Prop) (q : TrP) (fv : V), vs = [.ref d, .ref t, .int l.length] ∧ D3 c CW H F d p pv bl made held kept ∧
  H t = some (.ins c.T q.dx (trf q.o q.s fv)) ∧ H q.o = some (.lst (refs (l ++ m))) ∧ F q.o ∧ q.o ≠ p.b ∧ q.o ≠ p.m ∧ (∀ x ∈ l ++ m, WAt CW H (.ref t) x ∧ F x.a) ∧ HT H F p q.o held (l ++ m) ∧
  ∀ H', UInv c CW H H' F d t p pv bl made held kept l m [] m q.o → Q .non H'
section
variable {P : Program} {w : World} {K : PySem.W.Frag} {mg : Str → Option Value} {base : Heap} {c : Cs} {CW : Addr}
theorem ok_undoG {f : Addr} {fd : FuncData} (F : Fun K "_undo" "Database._undo" s_Database__undo f fd) (T : Bn mg) (B : DbTxt K mg c) (W : WTxt K c CW) : FnOk P w K mg base CX0 1 f fd ["self", "transaction", "start"] (spUndoG c CW) := by
  refine F.ok sc_Database__undo (fun vs H Q E h => ?_) (fun cdv A outer s H vs Q E hr h => ?_)
  · obtain ⟨d, t, p, uv, bl, made, held, kept, l, m, F, q, fv, rfl, _⟩ := h
    rfl
  · obtain ⟨d, t, p, uv, bl, made, held, kept, l, m, F, q, fv, rfl, db, ht, ho, fo, nob, nom, hw, hh, k⟩ := h
    have hu := hu_of hr
    refine ⟨_, (pss_one (ps_while PassesOwn.never (pt_cmpR op_gt (pe_callB call_len_seq (by rfl) T.len PySem.boot_len (pa_cons (pe_fld (pv 1) rfl) pa_nil)) (pv 2) (nomark _))
  (pss_cons (ps_set (i := 3) sc_Database__undo.nd rfl (Or.inl rfl) (pe_bm0 PySem.F.plainAttrs_list PySem.F.slot_list_pop PySem.F.type_list_pop mt_pop (pe_fld (pv 1) rfl)))
  (pss_cons (ps_fld (pv 3) pe_str rfl)
  (pss_cons (ps_set (i := 4) sc_Database__undo.nd rfl (Or.inl rfl) (pe_dget hu (pe_fld (pv 0) rfl) (pe_fld (pv 3) rfl) (fun _ _ => rfl)))
  (pss_cons (ps_expr (pe_bm0 PySem.F.plainAttrs_list PySem.F.slot_list_pop PySem.F.type_list_pop mt_pop (pv 4)))
  (pss_one (ps_if (pt_not (pt_truth (pv 4) (by intro _; rfl)))
  (pss_one (ps_ddel (pe_fld (pv 0) rfl) (pe_fld (pv 3) rfl)))
  pss_nil)))))))), ?_⟩
    refine ⟨fun n σ' H' => ∃ w3 w4 m1 m2, m = m1 ++ m2 ∧ m1.length = n ∧ σ' = [some (.ref d), some (.ref t), some (.int l.length), w3, w4] ∧ UInv c CW H H' F d t p uv bl made held kept l m m1 m2 q.o, ⟨m.length, none, none, m, [], by simp, rfl, rfl, Fr.refl _ _, by rw [heldCut_self]; exact db, ho, by rw [heldCut_self]; exact hh, fun x hx => (hw x hx).1, nofun, fun _ _ e _ _ _ _ => e⟩, ?_⟩
    rintro n σ' H' ⟨w3, w4, m1, m2, em, en, rfl, I⟩
    have ht' : H' t = some (.ins c.T q.dx (trf q.o q.s fv)) := by
      refine I.out _ _ ht (ne_kin ht ho (by simp [kin])) (ne_kin ht db.hh (by simp [kin])) (fun x hx => ?_) fun z hz _ => ?_
      · obtain ⟨dx, f, e⟩ := (hw x (List.mem_append_right _ hx)).1
        exact ne_kin ht e (by simp [kin])
      · refine ne_kin ht (hh.hl z hz fun e => ?_) (by simp [kin])
        rename_i q2
        rw [ofR_app] at e
        exact q2 (List.append_eq_nil_iff.mp e).2
    refine ⟨_, rfl, t, c.T, q.dx, _, _, rfl, ht', B.cT, B.nO, rfl, q.o, _, rfl, .inl (SqL.of I.ho), _, rfl, _, _, rfl, rfl, _, rfl, ?_⟩
    have ll : (refs (l ++ m1)).length = l.length + m1.length := by
      show ((l ++ m1).map _).length = _
      rw [List.length_map, List.length_append]
    rcases List.eq_nil_or_concat m1 with rfl | ⟨m1', x, ec⟩
    · rw [ll, decide_eq_false (by show ¬ ((l.length : Int) < ((l.length + 0 : Nat) : Int)); omega)]
      have : m2 = m := by rw [em]; rfl
      subst this
      exact iteF (k H' I)
    · rw [List.concat_eq_append] at ec
      subst ec
      rw [ll, decide_eq_true (by rw [List.length_append, List.length_singleton]; omega)]
      refine iteT ?_
      have xm : x ∈ m := by rw [em]; simp
      have xa : x ∈ l ++ m := List.mem_append_right _ xm
      have ho' := I.ho
      have sp : refs (l ++ (m1' ++ [x])) = refs (l ++ m1') ++ [.ref x.a] := by
        unfold refs
        rw [← List.append_assoc, List.map_append]
        rfl
      rw [sp] at ho'
      refine ⟨fun σ2 H2 => ∃ w3 w4 m1 m2, m = m1 ++ m2 ∧ m1.length = m1'.length ∧ σ2 = [some (.ref d), some (.ref t), some (.int l.length), w3, w4] ∧ UInv c CW H H2 F d t p uv bl made held kept l m m1 m2 q.o, fun σ2 H2 h => ⟨m1'.length, by rw [← en, List.length_append, List.length_singleton]; omega, h⟩, ?_⟩
      refine ⟨_, rfl, t, c.T, q.dx, _, _, rfl, ht', B.cT, B.nO, rfl, .inl ⟨rfl, _, SqL.of ho'⟩, q.o, _, .ref x.a, rfl, rfl, ho', ?_, ?_⟩
      · rw [List.length_append, List.length_singleton, Nat.add_sub_cancel, List.getElem?_append_right (Nat.le_refl _), Nat.sub_self]
        rfl
      rw [List.dropLast_concat]
      obtain ⟨dx, ft, ew⟩ := I.hw x xa
      have ew1 : upd H' q.o (.lst (refs (l ++ m1'))) x.a = some (.ins CW dx (wrf x.r x.v (.ref t) (.str ft))) := by
        rw [upd_ne (ne_kin ew I.ho (by simp [kin]))]
        exact ew
      have d1 := I.db.offL (o := .lst (refs (l ++ m1'))) I.ho nob.symm nom.symm
      refine ⟨_, rfl, x.a, CW, dx, _, rfl, ew1, W.cW, W.nF, (by show 4 < 1000; decide), ?_⟩
      have d2 := d1.fate (f' := "undone") ew1
      have ew2 := (upd_same : upd (upd H' q.o (.lst (refs (l ++ m1')))) x.a (.ins CW dx (wrf x.r x.v (.ref t) (.str "undone"))) x.a = _)
      obtain ⟨z, zm, zr⟩ := I.ht.all x (by simp)
      have onx : ofR (l ++ (m1' ++ [x])) x.r = ofR (l ++ m1') x.r ++ [x] := by rw [← List.append_assoc, ofR_one, if_pos rfl]
      have hz := I.ht.hl z zm (by rw [zr, onx]; simp)
      rw [zr, onx] at hz
      have rz : refs (ofR (l ++ m1') x.r ++ [x]) = refs (ofR (l ++ m1') x.r) ++ [.ref x.a] := by
        unfold refs
        rw [List.map_append]
        rfl
      rw [rz] at hz
      have hz2 : upd (upd H' q.o (.lst (refs (l ++ m1')))) x.a (.ins CW dx (wrf x.r x.v (.ref t) (.str "undone"))) z.2 = some (.lst (refs (ofR (l ++ m1') x.r) ++ [.ref x.a])) := by
        rw [upd_ne (ne_kin hz ew (by simp [kin])), upd_ne (I.ht.nl z zm).1]
        exact hz
      have fz : ((heldCut held (l ++ m) (l ++ (m1' ++ [x]))).find? fun z => decide (z.1 = x.r)) = some z := by
        cases e : (heldCut held (l ++ m) (l ++ (m1' ++ [x]))).find? fun z => decide (z.1 = x.r) with
        | none => exact absurd (decide_eq_true zr) (List.find?_eq_none.mp e z zm)
        | some y =>
          have ym := List.mem_of_find?_eq_some e
          have yr : y.1 = x.r := of_decide_eq_true (List.find?_some (p := fun z : Str × Addr => decide (z.1 = x.r)) e)
          rw [I.ht.one y ym z zm (.inl (yr.trans zr.symm))]
      have g : DGet (upd (upd H' q.o (.lst (refs (l ++ m1')))) x.a (.ins CW dx (wrf x.r x.v (.ref t) (.str "undone")))) p.h (.str x.r) (some (.ref z.2)) := by
        have q := DGet.k (k := .inr x.r) d2.hh
        rw [valV_hd3, fz] at q
        exact q
      refine ⟨_, rfl, d, c.D, p.dx, _, _, rfl, d2.hd, B.cD, B.nH, rfl, _, rfl, x.a, CW, dx, _, _, rfl, ew2, W.cW, W.nR, rfl, p.h, .ref z.2, rfl, g, ?_⟩
      refine ⟨_, rfl, .inl ⟨rfl, _, SqL.of hz2⟩, z.2, _, .ref x.a, rfl, rfl, hz2, ?_, ?_⟩
      · rw [List.length_append, List.length_singleton, Nat.add_sub_cancel, List.getElem?_append_right (Nat.le_refl _), Nat.sub_self]
        rfl
      rw [List.dropLast_concat]
      have d3 := d2.offL (o := .lst (refs (ofR (l ++ m1') x.r))) hz2 (I.ht.nl z zm).2.1.symm (I.ht.nl z zm).2.2.symm
      have hz3 := (upd_same : upd (upd (upd H' q.o (.lst (refs (l ++ m1')))) x.a (.ins CW dx (wrf x.r x.v (.ref t) (.str "undone")))) z.2 (.lst (refs (ofR (l ++ m1') x.r))) z.2 = _)
      have ew3 : upd (upd (upd H' q.o (.lst (refs (l ++ m1')))) x.a (.ins CW dx (wrf x.r x.v (.ref t) (.str "undone")))) z.2 (.lst (refs (ofR (l ++ m1') x.r))) x.a = some (.ins CW dx (wrf x.r x.v (.ref t) (.str "undone"))) := by
        rw [upd_ne (ne_kin ew2 hz2 (by simp [kin]))]
        exact ew2
      have sv : ∀ a u, H' a = some u → a ≠ q.o → a ≠ x.a → a ≠ z.2 → upd (upd (upd H' q.o (.lst (refs (l ++ m1')))) x.a (.ins CW dx (wrf x.r x.v (.ref t) (.str "undone")))) z.2 (.lst (refs (ofR (l ++ m1') x.r))) a = some u := fun a u e n1 n2 n3 => by
        rw [upd_ne n3, upd_ne n2, upd_ne n1]
        exact e
      have ho3 : upd (upd (upd H' q.o (.lst (refs (l ++ m1')))) x.a (.ins CW dx (wrf x.r x.v (.ref t) (.str "undone")))) z.2 (.lst (refs (ofR (l ++ m1') x.r))) q.o = some (.lst (refs (l ++ m1'))) := by
        rw [upd_ne (I.ht.nl z zm).1.symm, upd_ne (ne_kin upd_same ew1 (by simp [kin])), upd_same]
      have fx := (hw x xa).2
      have fr3 : Fr F F H (upd (upd (upd H' q.o (.lst (refs (l ++ m1')))) x.a (.ins CW dx (wrf x.r x.v (.ref t) (.str "undone")))) z.2 (.lst (refs (ofR (l ++ m1') x.r)))) := I.fr.trans ((Fr.at_ fo).trans ((Fr.at_ fx).trans (Fr.at_ (I.ht.fl z zm))))
      have asc : l ++ (m1' ++ [x]) = (l ++ m1') ++ [x] := (List.append_assoc ..).symm
      have sub : ∀ y, y ∈ heldCut held (l ++ m) (l ++ m1') → y ∈ heldCut held (l ++ m) (l ++ (m1' ++ [x])) := fun y hy => by
        have g := mem_cut.mp hy
        refine mem_cut.mpr ⟨g.1, g.2.imp (fun n => ?_) id⟩
        rw [asc, ofR_one]
        split
        · simp
        · exact n
      have fin : ∀ G, (∀ a u, upd (upd (upd H' q.o (.lst (refs (l ++ m1')))) x.a (.ins CW dx (wrf x.r x.v (.ref t) (.str "undone")))) z.2 (.lst (refs (ofR (l ++ m1') x.r))) a = some u → a ≠ p.h → G a = some u) →
          Fr F F (upd (upd (upd H' q.o (.lst (refs (l ++ m1')))) x.a (.ins CW dx (wrf x.r x.v (.ref t) (.str "undone")))) z.2 (.lst (refs (ofR (l ++ m1') x.r)))) G → D3 c CW G F d p uv bl made (heldCut held (l ++ m) (l ++ m1')) kept → UInv c CW H G F d t p uv bl made held kept l m m1' (x :: m2) q.o := by
        intro G gk gf gd
        have same : ∀ (y : Wr) (dy : Addr) (fy : Str), H' y.a = some (.ins CW dy (wrf y.r y.v (.ref t) (.str fy))) → y.a = x.a → G y.a = some (.ins CW dx (wrf y.r y.v (.ref t) (.str "undone"))) := fun y dy fy e q2 => by
          rw [q2, ew] at e
          injection e with e
          injection e with _ _ e4
          simp only [List.cons.injEq, Prod.mk.injEq, V.str.injEq, true_and, and_true] at e4
          rw [q2, ← e4.1, ← e4.2.1]
          exact gk _ _ ew3 (ne_kin ew3 d3.hh (by simp [kin]))
        have go : ∀ (y : Wr) (dy : Addr) (fy : Str), H' y.a = some (.ins CW dy (wrf y.r y.v (.ref t) (.str fy))) → y.a ≠ x.a → G y.a = some (.ins CW dy (wrf y.r y.v (.ref t) (.str fy))) := fun y dy fy e n => by
          have e2 := sv _ _ e (ne_kin e I.ho (by simp [kin])) n (ne_kin e hz (by simp [kin]))
          exact gk _ _ e2 (ne_kin e2 d3.hh (by simp [kin]))
        refine ⟨fr3.trans gf, gd, gk _ _ ho3 (ne_kin ho3 d3.hh (by simp [kin])), ⟨fun y hy => ?_, fun y hy n => ?_, fun y hy y2 hy2 e => I.ht.one y (sub y hy) y2 (sub y2 hy2) e, fun y hy => I.ht.nl y (sub y hy), fun y hy => I.ht.fl y (sub y hy)⟩, fun y hy => ?_, fun y hy => ?_, fun a u e n1 n2 n3 n4 => ?_⟩
        · obtain ⟨y2, m2', e⟩ := I.ht.all y (by rw [asc]; exact List.mem_append_left _ hy)
          refine ⟨y2, mem_cut.mpr ⟨(mem_cut.mp m2').1, .inl fun h => ?_⟩, e⟩
          exact List.filter_eq_nil_iff.mp h y hy (decide_eq_true e.symm)
        · by_cases q2 : y.1 = x.r
          · have yz : y = z := I.ht.one y (sub y hy) z zm (.inl (q2.trans zr.symm))
            rw [yz, zr]
            exact gk _ _ hz3 (ne_kin hz3 d3.hh (by simp [kin]))
          · have o1 : ofR (l ++ (m1' ++ [x])) y.1 = ofR (l ++ m1') y.1 := by rw [asc, ofR_one, if_neg fun h => q2 h.symm]
            have e := I.ht.hl y (sub y hy) (by rw [o1]; exact n)
            rw [o1] at e
            have yz : y.2 ≠ z.2 := fun h => q2 ((congrArg Prod.fst (I.ht.one y (sub y hy) z zm (.inr h))).trans zr)
            have e2 := sv _ _ e (I.ht.nl y (sub y hy)).1 (ne_kin e ew (by simp [kin])) yz
            exact gk _ _ e2 (ne_kin e2 d3.hh (by simp [kin]))
        · obtain ⟨dy, fy, e⟩ := I.hw y hy
          by_cases q2 : y.a = x.a
          · exact ⟨dx, "undone", same y dy fy e q2⟩
          · exact ⟨dy, fy, go y dy fy e q2⟩
        · rcases List.mem_cons.mp hy with rfl | hy
          · exact ⟨dx, gk _ _ ew3 (ne_kin ew3 d3.hh (by simp [kin]))⟩
          · obtain ⟨dy, e⟩ := I.un y hy
            by_cases q2 : y.a = x.a
            · exact ⟨dx, same y dy _ e q2⟩
            · exact ⟨dy, go y dy _ e q2⟩
        · have zh := (mem_cut.mp zm).1
          have om : ofR m z.1 ≠ [] := fun h => List.filter_eq_nil_iff.mp h x xm (decide_eq_true zr.symm)
          exact gk _ _ (sv _ _ (I.out a u e n1 n2 n3 n4) n1 (n3 x xm) (n4 z zh om)) n2
      refine ⟨_, rfl, _, .inl ⟨_, SqL.of hz3, rfl⟩, ?_⟩
      by_cases e0 : ofR (l ++ m1') x.r = []
      · rw [show (!(refs (ofR (l ++ m1') x.r)).isEmpty) = false from by rw [e0]; rfl]
        refine iteT ?_
        refine ⟨_, rfl, d, c.D, p.dx, _, _, rfl, d3.hd, B.cD, B.nH, rfl, _, rfl, x.a, CW, dx, _, _, rfl, ew3, W.cW, W.nR, rfl, p.h, _, .inr x.r, rfl, d3.hh, rfl, ?_, ?_⟩
        · rw [valV_hd3, fz]
          rfl
        · rw [dropK_hd3, asc, heldCut_snoc xa e0]
          exact ⟨_, _, m1', x :: m2, (by rw [em]; simp), rfl, rfl, fin _ (fun a u e n => by rw [upd_ne n]; exact e) (Fr.at_ d3.fh) (d3.setHeld _)⟩
      · rw [show (!(refs (ofR (l ++ m1') x.r)).isEmpty) = true from by
          cases h : ofR (l ++ m1') x.r with
          | nil => exact absurd h e0
          | cons a b => rfl]
        rw [asc, heldCut_keep e0] at d3
        exact iteF ⟨_, _, m1', x :: m2, (by rw [em]; simp), rfl, rfl, fin _ (fun a u e n => e) (Fr.refl _ _) d3⟩
end
end IC
namespace IC
open PySem L2 TL
theorem isE {l : List Wr} : (!l.isEmpty) = true ↔ l ≠ [] := by cases l <;> simp
theorem SG.mine_iff {S : SG} {r : Str} : S.mine r = true ↔ ∃ T, S.top = some T ∧ ofR T.e.own r ≠ [] := by
  unfold SG.mine
  rw [isE]
  cases S.top with
  | none => exact ⟨fun h => absurd rfl h, fun ⟨T, e, _⟩ => by cases e⟩
  | some T => exact ⟨fun h => ⟨T, rfl, h⟩, fun ⟨U, e, h⟩ => by cases e; exact h⟩
theorem SG.wait_iff {S : SG} {r : Str} : S.wait r = true ↔ ∃ T, some T ∈ S.sus ∧ ofR T.e.own r ≠ [] := by
  unfold SG.wait
  rw [List.any_eq_true]
  constructor
  · rintro ⟨o, ho, h⟩
    rw [isE] at h
    cases o with
    | none => exact absurd rfl h
    | some T => exact ⟨T, ho, h⟩
  · rintro ⟨T, ho, h⟩
    exact ⟨some T, ho, isE.mpr h⟩
theorem SG.mem_ts {S : SG} {T : Tr} : T ∈ S.ts ↔ S.top = some T ∨ some T ∈ S.sus := by
  unfold SG.ts
  rw [List.mem_append, List.mem_filterMap]
  refine or_congr ?_ ?_
  · cases S.top with
    | none => simp
    | some U => simp [eq_comm]
  · constructor
    · rintro ⟨o, ho, e⟩
      rw [show o = some T from e] at ho
      exact ho
    · exact fun h => ⟨some T, h, rfl⟩
section
variable {P : Program} {w : World} {K : PySem.W.Frag} {mg : Str → Option Value} {base : Heap} {c : Cs} {CW : Addr}
/-- one of those that hold a record: the present one or a suspended one, not both -/
theorem DbG.who {H : Hp} {F : Addr → Prop} {S : SG} (h : DbG c CW H F S) {T : Tr} {r : Str} (hT : T ∈ S.ts) (n : ofR T.e.own r ≠ []) : (S.top = some T ∧ S.mine r = true ∧ S.wait r = false) ∨ (S.top ≠ some T ∧ S.mine r = false ∧ S.wait r = true) := by
  by_cases e : S.top = some T
  · refine .inl ⟨e, SG.mine_iff.mpr ⟨T, e, n⟩, ?_⟩
    cases q : S.wait r with
    | false => rfl
    | true =>
      obtain ⟨U, hU, nU⟩ := SG.wait_iff.mp q
      have ap := h.ap
      unfold SG.ts at ap
      rw [e] at ap
      have pw := (List.pairwise_cons.mp ap).1 U (List.mem_filterMap.mpr ⟨some U, hU, rfl⟩)
      obtain ⟨x, hx⟩ := List.exists_mem_of_ne_nil _ n
      obtain ⟨y, hy⟩ := List.exists_mem_of_ne_nil _ nU
      have hx := List.mem_filter.mp hx
      have hy := List.mem_filter.mp hy
      exact absurd ((of_decide_eq_true hx.2).trans (of_decide_eq_true hy.2).symm) (pw.2.2.2.2.2 x hx.1 y hy.1).1
  · refine .inr ⟨e, ?_, ?_⟩
    · cases q : S.mine r with
      | false => rfl
      | true =>
        obtain ⟨U, eU, nU⟩ := SG.mine_iff.mp q
        rw [h.by (SG.topMem eU) hT nU n] at eU
        exact absurd eU e
    · exact SG.wait_iff.mpr ⟨T, (SG.mem_ts.mp hT).resolve_left e, n⟩
theorem DbG.noone {S : SG} {r : Str} (h : ∀ T ∈ S.ts, ofR T.e.own r = []) : S.mine r = false ∧ S.wait r = false := by
  constructor
  · cases q : S.mine r with
    | false => rfl
    | true =>
      obtain ⟨U, eU, nU⟩ := SG.mine_iff.mp q
      exact absurd (h U (SG.topMem eU)) nU
  · cases q : S.wait r with
    | false => rfl
    | true =>
      obtain ⟨U, eU, nU⟩ := SG.wait_iff.mp q
      exact absurd (h U (SG.mem_ts.mpr (.inr eU))) nU
theorem ok_reasonG {f : Addr} {fd : FuncData} (F : Fun K "reason" "Database.reason" s_Database_reason f fd) (B : DbTxt K mg c) : FnOk P w K mg base CX0 1 f fd ["self"] (spLookG c CW 0 fun S _ v => v = oV (eT S.top).why) := by
  refine F.ok sc_Database_reason (fun vs H Q E h => ?_) (fun cdv A outer s H vs Q E hr h => ?_)
  · obtain ⟨S, F, us, v, rfl, hu, _⟩ := h
    simpa using hu
  · obtain ⟨S, F, us, v, rfl, hu, hd, hz, rfl, k⟩ := h
    obtain rfl := List.eq_nil_of_length_eq_zero hu
    refine ⟨_, (pss_cons (ps_if (pt_cmpR op_isN (pe_fld (pv 0) rfl) pe_non (nomark _))
  (pss_one (ps_ret pe_non))
  pss_nil)
  (pss_one (ps_ret (pe_fld (pe_fld (pv 0) rfl) rfl)))), ?_⟩
    have hdb := hd.db
    refine ⟨_, rfl, S.d, c.D, S.p.dx, _, vT S.top, rfl, hdb.hd, B.cD, B.nP, rfl, rfl, _, rfl, ?_⟩
    cases e : S.top with
    | none =>
      rw [e] at k
      exact k
    | some T =>
      rw [e] at k hdb
      exact ⟨_, rfl, S.d, c.D, S.p.dx, _, _, rfl, hdb.hd, B.cD, B.nP, rfl, T.t, c.T, T.q.dx, _, _, rfl, (hd.tr T (SG.topMem e)).ht, B.cT, B.n1, rfl, k⟩
theorem ok_is_doomedG {f : Addr} {fd : FuncData} (F : Fun K "is_doomed" "Database.is_doomed" s_Database_is_doomed f fd) (B : DbTxt K mg c) (P_reason : PDf P w K mg base 1 c.D "reason" (spLookG c CW 0 fun S _ v => v = oV (eT S.top).why)) :
    FnOk P w K mg base CX0 3 f fd ["self"] (spLookG c CW 0 fun S _ v => v = .bl (eT S.top).why.isSome) := by
  refine F.ok sc_Database_is_doomed (fun vs H Q E h => ?_) (fun cdv A outer s H vs Q E hr h => ?_)
  · obtain ⟨S, F, us, v, rfl, hu, _⟩ := h
    simpa using hu
  · obtain ⟨S, F, us, v, rfl, hu, hd, hz, rfl, k⟩ := h
    obtain rfl := List.eq_nil_of_length_eq_zero hu
    refine ⟨_, (pss_one (ps_ret (pe_cmpR op_notN (pe_pd P_reason B.cD hr (by decide) (pv 0)) pe_non (nomark _)))), ?_⟩
    refine ⟨_, rfl, S.d, S.p.dx, _, rfl, hd.db.hd, S, F, [], _, rfl, rfl, hd, hz, rfl, rfl, ?_⟩
    cases e : (eT S.top).why with
    | none =>
      rw [e] at k
      exact k
    | some u =>
      rw [e] at k
      exact k
theorem ok_is_holderG {f : Addr} {fd : FuncData} (F : Fun K "_is_holder" "Database._is_holder" s_Database__is_holder f fd) (B : DbTxt K mg c) (W : WTxt K c CW) : FnOk P w K mg base CX0 1 f fd ["self", "record"] (spLookL c CW 1 fun S us v => ∃ r, us = [.str r] ∧ (∃ T ∈ S.ts, ofR T.e.own r ≠ []) ∧ v = .bl (S.mine r)) := by
  refine F.ok sc_Database__is_holder (fun vs H Q E h => ?_) (fun cdv A outer s H vs Q E hr h => ?_)
  · obtain ⟨S, F, us, v, rfl, hu, _⟩ := h
    simpa using hu
  · obtain ⟨S, F, us, v, rfl, hu, hd, hz, ⟨r, rfl, ⟨T0, hT0, n0⟩, rfl⟩, k⟩ := h
    have hu := hu_of hr
    have mT := W.mT
    have sT := W.sT
    refine ⟨_, (pss_one (ps_ret (pe_cmpR (op_eqPl mT sT (Nat.lt_of_succ_lt hu)) (pe_fld (pe_ix ix_list (pe_dget hu (pe_fld (pv 0) rfl) (pv 1) (fun _ _ => rfl)) pe_int (fun _ _ => rfl)) rfl) (pe_fld (pv 0) rfl) (nomark _)))), ?_⟩
    have g := hd.get r
    obtain ⟨H0, hd, uk⟩ := hd.up
    have hdb := hd.db
    have hdd := uk hdb.hd (by simp [kin])
    rcases hd.find r with ⟨z, T, ez, hT, n, hl⟩ | ⟨_, no⟩
    · rw [ez] at g
      obtain ⟨x, xs, ex⟩ := List.exists_cons_of_ne_nil n
      have xm : x ∈ T.e.own := by
        have : x ∈ ofR T.e.own r := by rw [ex]; exact List.mem_cons_self
        exact (List.mem_filter.mp this).1
      have tr := hd.tr T hT
      obtain ⟨dx, ft, ew⟩ := tr.hw x xm
      refine ⟨_, rfl, S.d, c.D, S.p.dx, _, _, rfl, hdd, B.cD, B.nH, rfl, _, rfl, S.p.h, .ref z.2, rfl, g, ?_⟩
      refine ⟨z.2, _, 0, .ref x.a, rfl, rfl, SqL.of (uk hl (by simp [kin])), atI_nat (j := 0) (by rw [ex]; rfl), ?_⟩
      refine ⟨x.a, CW, dx, _, .ref T.t, rfl, uk ew (by simp [kin]), W.cW, W.nH, rfl, _, rfl, S.d, c.D, S.p.dx, _, _, rfl, hdd, B.cD, B.nP, rfl, ?_⟩
      have trt := uk tr.ht (by simp [kin])
      rcases hd.who hT n with ⟨e1, e2, _⟩ | ⟨e1, e2, _⟩
      · rw [e2] at k
        refine ⟨T.t, T.q.dx, _, rfl, trt, .inr ⟨T.t, T.q.dx, _, by rw [e1]; rfl, trt, ?_⟩⟩
        rw [decide_eq_true rfl]
        exact k
      · rw [e2] at k
        cases et : S.top with
        | none => exact ⟨T.t, T.q.dx, _, rfl, trt, .inl ⟨rfl, k⟩⟩
        | some U =>
          have tu := hd.tr U (SG.topMem et)
          have ne : T.t ≠ U.t := hd.apart hT (SG.topMem et) fun q => e1 (by rw [et, q])
          refine ⟨T.t, T.q.dx, _, rfl, trt, .inr ⟨U.t, U.q.dx, _, rfl, uk tu.ht (by simp [kin]), ?_⟩⟩
          rw [decide_eq_false ne]
          exact k
    · exact absurd (no T0 hT0) n0
theorem ok_holdsG {f : Addr} {fd : FuncData} (F : Fun K "holds" "Database.holds" s_Database_holds f fd) (B : DbTxt K mg c) (M_is_holder : MDf P w K mg base CX0 1 c.D "_is_holder" ["self", "record"] [] (spLookL c CW 1 fun S us v => ∃ r, us = [.str r] ∧ (∃ T ∈ S.ts, ofR T.e.own r ≠ []) ∧ v = .bl (S.mine r))) :
    FnOk P w K mg base CX0 2 f fd ["self", "record"] (spLookL c CW 1 fun S us v => ∃ r, us = [.str r] ∧ v = .bl (S.mine r)) := by
  refine F.ok sc_Database_holds (fun vs H Q E h => ?_) (fun cdv A outer s H vs Q E hr h => ?_)
  · obtain ⟨S, F, us, v, rfl, hu, _⟩ := h
    simpa using hu
  · obtain ⟨S, F, us, v, rfl, hu, hL, hz, ⟨r, rfl, rfl⟩, k⟩ := h
    have hu := hu_of hr
    refine ⟨_, (pss_one (ps_ret (pe_and (pe_cmp (pc_din hu (pv 1) (pe_fld (pv 0) rfl)) rfl) (pe_one (pe_md M_is_holder B.cD hr (by decide) (pv 0) (pa_cons (pv 1) pa_nil)))))), ?_⟩
    have g := hL.get r
    obtain ⟨H0, hd, uk⟩ := hL.up
    have hdd := uk hd.db.hd (by simp [kin])
    refine ⟨_, rfl, _, rfl, S.d, c.D, S.p.dx, _, _, rfl, hdd, B.cD, B.nH, rfl, S.p.h, _, rfl, g, _, rfl, ?_⟩
    rcases hd.find r with ⟨z, T, ez, hT, n, hl⟩ | ⟨ez, no⟩
    · rw [ez]
      exact iteT ⟨_, rfl, S.d, S.p.dx, _, rfl, hdd, rfl, _, rfl, S, F, [.str r], _, rfl, rfl, hL, hz, ⟨r, rfl, ⟨T, hT, n⟩, rfl⟩, k⟩
    · rw [ez]
      rw [(DbG.noone no).1] at k
      exact iteF k
theorem ok_has_suspendedG {f : Addr} {fd : FuncData} (F : Fun K "has_suspended" "Database.has_suspended" s_Database_has_suspended f fd) (B : DbTxt K mg c) (M_is_holder : MDf P w K mg base CX0 1 c.D "_is_holder" ["self", "record"] [] (spLookL c CW 1 fun S us v => ∃ r, us = [.str r] ∧ (∃ T ∈ S.ts, ofR T.e.own r ≠ []) ∧ v = .bl (S.mine r))) :
    FnOk P w K mg base CX0 2 f fd ["self", "record"] (spLookL c CW 1 fun S us v => ∃ r, us = [.str r] ∧ v = .bl (S.wait r)) := by
  refine F.ok sc_Database_has_suspended (fun vs H Q E h => ?_) (fun cdv A outer s H vs Q E hr h => ?_)
  · obtain ⟨S, F, us, v, rfl, hu, _⟩ := h
    simpa using hu
  · obtain ⟨S, F, us, v, rfl, hu, hL, hz, ⟨r, rfl, rfl⟩, k⟩ := h
    have hu := hu_of hr
    refine ⟨_, (pss_one (ps_ret (pe_and (pe_cmp (pc_din hu (pv 1) (pe_fld (pv 0) rfl)) rfl) (pe_one (pe_not (pe_md M_is_holder B.cD hr (by decide) (pv 0) (pa_cons (pv 1) pa_nil))))))), ?_⟩
    have g := hL.get r
    obtain ⟨H0, hd, uk⟩ := hL.up
    have hdd := uk hd.db.hd (by simp [kin])
    refine ⟨_, rfl, _, rfl, S.d, c.D, S.p.dx, _, _, rfl, hdd, B.cD, B.nH, rfl, S.p.h, _, rfl, g, _, rfl, ?_⟩
    rcases hd.find r with ⟨z, T, ez, hT, n, hl⟩ | ⟨ez, no⟩
    · rw [ez]
      have e : (!S.mine r) = S.wait r := by
        rcases hd.who hT n with ⟨_, e2, e3⟩ | ⟨_, e2, e3⟩
        · rw [e2, e3]; rfl
        · rw [e2, e3]; rfl
      rw [← e] at k
      exact iteT ⟨_, rfl, S.d, S.p.dx, _, rfl, hdd, rfl, _, rfl, S, F, [.str r], _, rfl, rfl, hL, hz, ⟨r, rfl, ⟨T, hT, n⟩, rfl⟩, _, rfl, k⟩
    · rw [ez]
      rw [(DbG.noone no).2] at k
      exact iteF k
end
end IC
namespace IC
open PySem L2 TL
/-- a class that is made with arguments -/
structure CDfA (P : Program) (w : World) (K : PySem.W.Frag) (mg : Str → Option Value) (base : Heap) (k : Nat) (x : Str) (C : Addr) (ps : List Str) (sp : Sp) : Prop where
  ex : ∃ (f : Addr) (fd : FuncData), Mk K C f ∧ FnOk P w K mg base CX0 k f fd ps sp ∧ Binds K fd ps [] ∧ mg x = some (.ref C)
theorem pe_mkw {X : Cx} {k j : Nat} {x : Str} {C : Addr} {ps : List Str} {sp : Sp} {p pos : Pos} {e : Expr} {es : List Expr} {t : TA} (D : CDfA X.prog X.w X.K X.mg X.base k x C ps sp) (hr : Room j X.A) (hk : k + 1 ≤ j) (hg : Gl X x) (ha : PA X (e :: es) t)
    (hdb : (x == ("__debug__" : Str)) = false := by decide) (he : starEach (e :: es) X.env = (false, eval e X.env) :: starEach es X.env := by rfl) (hpl : (backTo pos (starEach es X.env)).any (·.1) = false := by rfl) :
    PE X (.Call (.Name x p) (e :: es) [] pos) (tMake C sp [] E0 t) := by
  obtain ⟨f, fd, M, F, hb, hm⟩ := D.ex
  exact pe_make M F (hr.mono hk) hg hm hb .nil pass0 ha hdb he hpl
theorem putK_new {l : List (Str × Addr)} {r : Str} {a : Addr} (e : valV (hd3 l) (.inr r) = none) : putK (hd3 l) (.inr r) (.ref a) = hd3 (l ++ [(r, a)]) := by
  unfold putK
  rw [valV_any, e]
  show hd3 l ++ [(Sum.inr r, V.ref a)] = _
  unfold hd3
  rw [List.map_append]
  rfl
/-- a write more in the top level -/
def putTop (x : Wr) : En → En
  | [] => []
  | l :: e => ⟨l.why, l.ws ++ [x]⟩ :: e
theorem putTop_own {x : Wr} {e : En} (n : e ≠ []) : (putTop x e).own = e.own ++ [x] := by
  cases e with
  | nil => exact absurd rfl n
  | cons l e =>
    show En.own (⟨l.why, l.ws ++ [x]⟩ :: e) = _
    rw [own_cons, own_cons, List.append_assoc]
theorem putTop_why (x : Wr) (e : En) : (putTop x e).why = e.why := by cases e <;> rfl
theorem putTop_starts (x : Wr) (e : En) : (putTop x e).starts = e.starts := by cases e <;> rfl
def Tr.put (T : Tr) (x : Wr) : Tr := ⟨T.t, T.q, putTop x T.e⟩
theorem Tr.Apart.put {T U : Tr} {x : Wr} (h : T.Apart U) (n : T.e ≠ []) (hx : ∀ y ∈ U.e.own, x.r ≠ y.r ∧ x.a ≠ y.a) : (T.put x).Apart U := by
  refine ⟨h.1, h.2.1, h.2.2.1, h.2.2.2.1, h.2.2.2.2.1, fun y hy z hz => ?_⟩
  have hy : y ∈ (putTop x T.e).own := hy
  rw [putTop_own n] at hy
  rcases List.mem_append.mp hy with hy | hy
  · exact h.2.2.2.2.2 y hy z hz
  · rw [List.mem_singleton.mp hy]
    exact hx z hz
theorem wf_put {s : List So} {x : Wr} : ∀ {l : Lv} {e : En} {r : List En}, Wf s ((l :: e) :: r) → Wf s ((⟨l.why, l.ws ++ [x]⟩ :: e) :: r) := by
  induction s with
  | nil =>
    intro l e r h
    have h : ((l :: e) :: r) = [[]] := h
    cases h
  | cons o s ih =>
    intro l e r h
    cases o with
    | plain => exact h.elim
    | joined => exact ih h
    | level =>
      cases e with
      | nil => exact h.elim
      | cons l2 e => exact h
    | base =>
      cases e with
      | nil => exact h
      | cons l2 e => exact h.elim
    | outside => exact h.elim
theorem wf_put' {s : List So} {x : Wr} {e : En} {r : List En} (h : Wf s (e :: r)) : Wf s (putTop x e :: r) := by
  cases e with
  | nil => exact h
  | cons l e => exact wf_put h
section
variable {c : Cs} {CW : Addr} {H G : Hp} {F F' : Addr → Prop} {S : SG} {T : Tr} {x : Wr} {made' : List V} {held' : List (Str × Addr)} {z0 : Str × Addr}
/-- a write of the present transaction is put down -/
theorem DbG.put (h : DbG c CW H F S) (et : S.top = some T) (sF : ∀ a, F a → F' a) (wt : S.wait x.r = false) (wx : WAt CW H (.ref T.t) x) (fx : F' x.a) (new : ∀ U ∈ S.ts, ∀ y ∈ U.e.own, x.a ≠ y.a)
    (kp : ∀ b o, H b = some o → b ≠ S.p.m → b ≠ T.q.o → b ≠ S.p.h → b ≠ z0.2 → G b = some o) (db : D3 c CW G F' S.d S.p (vT S.top) S.bl made' held' S.kept) (go : G T.q.o = some (.lst (refs (T.e.own ++ [x])))) (hz : z0 ∈ held') (zr : z0.1 = x.r) (gz : G z0.2 = some (.lst (refs (ofR T.e.own x.r ++ [x]))))
    (hk : (∃ xs, H z0.2 = some (.lst xs)) ∨ H z0.2 = none) (hin : ∀ z ∈ held', z ∈ S.held ∨ z = z0) (sub : ∀ z ∈ S.held, z ∈ held') (one : ∀ z ∈ held', ∀ y ∈ held', z.1 = y.1 ∨ z.2 = y.2 → z = y) (nl : z0.2 ≠ S.p.b ∧ z0.2 ≠ S.p.m ∧ ∀ U ∈ S.ts, z0.2 ≠ U.q.o ∧ z0.2 ≠ U.q.s) (fz : F' z0.2) (hn' : (held'.map (·.1)).Nodup) :
    DbG c CW G F' { S with made := made', held := held', top := some (T.put x) } := by
  have hT := SG.topMem et
  have tT := h.tr T hT
  have own' : (T.put x).e.own = T.e.own ++ [x] := putTop_own tT.ne
  have ts' : SG.ts { S with made := made', held := held', top := some (T.put x) } = T.put x :: S.sus.filterMap id := rfl
  have tsS : S.ts = T :: S.sus.filterMap id := by unfold SG.ts; rw [et]; rfl
  have inS : ∀ U ∈ S.sus.filterMap id, U ∈ S.ts := fun U hU => by rw [tsS]; exact List.mem_cons_of_mem _ hU
  have ap := h.ap
  rw [tsS] at ap
  have apT := (List.pairwise_cons.mp ap).1
  have nk : ∀ {b : Addr} {o : HO}, H b = some o → kin o ≠ 1 → kin o ≠ 3 → G b = some o := fun {b o} e n1 n3 => by
    refine kp b o e (ne_kin e h.db.hm n1) (ne_kin e tT.ho n1) (ne_kin e h.db.hh n3) ?_
    rcases hk with ⟨xs, q⟩ | q
    · exact ne_kin e q n1
    · exact ne_of_none e q
  have wk : ∀ {hv : V} {y : Wr}, WAt CW H hv y → WAt CW G hv y := fun {hv y} wy => by
    obtain ⟨dx, f, e⟩ := wy
    exact ⟨dx, f, nk e (by simp [kin]) (by simp [kin])⟩
  have nrU : ∀ U ∈ S.sus.filterMap id, ofR U.e.own x.r = [] := fun U hU => by
    obtain ⟨o, ho, eo⟩ := List.mem_filterMap.mp hU
    rw [show o = some U from eo] at ho
    cases q : ofR U.e.own x.r with
    | nil => rfl
    | cons a l =>
      have := SG.wait_iff.mpr ⟨U, ho, by rw [q]; simp⟩
      rw [wt] at this
      cases this
  refine ⟨by rw [show vT (some (T.put x)) = vT S.top from by rw [et]; rfl]; exact db, fun U hU => ?_, fun U hU z hz' n => ?_, fun U hU y hy => ?_, fun z hz' => ?_, one, fun z hz' => ?_, fun z hz' => ?_, ?_, ?_, ?_, hn'⟩
  · rw [ts'] at hU
    rcases List.mem_cons.mp hU with rfl | hU
    · refine ⟨fun q => ?_, ?_, by rw [own']; exact go, ?_, fun y hy => ?_, fun l hl => ?_, tT.nos, tT.nob, tT.nom, tT.nsb, tT.nsm, sF _ tT.ft, sF _ tT.fo, sF _ tT.fs, fun y hy => ?_⟩
      · have := tT.ne
        cases ee : T.e with
        | nil => exact this ee
        | cons l e =>
          have q : putTop x T.e = [] := q
          rw [ee] at q
          cases q
      · show G T.t = some (.ins c.T T.q.dx (trf T.q.o T.q.s (oV (putTop x T.e).why)))
        rw [putTop_why]
        exact nk tT.ht (by simp [kin]) (by simp [kin])
      · show G T.q.s = some (.lst ((putTop x T.e).starts.map fun n : Nat => V.int (n : Int)))
        rw [putTop_starts]
        refine kp _ _ tT.hs tT.nsm tT.nos.symm (ne_kin tT.hs h.db.hh (by simp [kin])) ?_
        exact (nl.2.2 T hT).2.symm
      · rw [own'] at hy
        rcases List.mem_append.mp hy with hy | hy
        · exact wk (tT.hw y hy)
        · rw [List.mem_singleton.mp hy]
          exact wk wx
      · refine tT.low l ?_
        have hl : l ∈ (putTop x T.e).tail := hl
        cases ee : T.e with
        | nil => rw [ee] at hl; exact hl
        | cons l e => rw [ee] at hl; exact hl
      · rw [own'] at hy
        rcases List.mem_append.mp hy with hy | hy
        · exact sF _ (tT.fw y hy)
        · rw [List.mem_singleton.mp hy]
          exact fx
    · have tU := h.tr U (inS U hU)
      have aU := apT U hU
      have zU := nl.2.2 U (inS U hU)
      exact ⟨tU.ne, nk tU.ht (by simp [kin]) (by simp [kin]), kp _ _ tU.ho tU.nom aU.2.1.symm (ne_kin tU.ho h.db.hh (by simp [kin])) zU.1.symm, kp _ _ tU.hs tU.nsm aU.2.2.1.symm (ne_kin tU.hs h.db.hh (by simp [kin])) zU.2.symm, fun y hy => wk (tU.hw y hy), tU.low, tU.nos, tU.nob, tU.nom, tU.nsb, tU.nsm, sF _ tU.ft, sF _ tU.fo, sF _ tU.fs, fun y hy => sF _ (tU.fw y hy)⟩
  · rw [ts'] at hU
    have oldz : z.1 ≠ x.r → z ∈ S.held := fun q => (hin z hz').resolve_right fun e => q (by rw [e, zr])
    have keepz : ∀ {u : HO}, z.1 ≠ x.r → H z.2 = some u → kin u = 1 → G z.2 = some u := fun {u} q e k1 => by
      have zo := oldz q
      have g := h.nl z zo
      refine kp _ _ e g.2.1 (g.2.2 T hT).1 (ne_kin e h.db.hh (by rw [k1]; simp [kin])) fun e2 => q ?_
      rw [one z hz' z0 hz (.inr e2), zr]
    rcases List.mem_cons.mp hU with rfl | hU
    · by_cases q : z.1 = x.r
      · have e : z = z0 := one z hz' z0 hz (.inl (q.trans zr.symm))
        rw [e, zr, own', ofR_one, if_pos rfl]
        exact gz
      · rw [own', ofR_one, if_neg fun e => q e.symm] at n ⊢
        exact keepz q (h.hl T hT z (oldz q) n) rfl
    · have q : z.1 ≠ x.r := fun e => n (by rw [e]; exact nrU U hU)
      exact keepz q (h.hl U (inS U hU) z (oldz q) n) rfl
  · rw [ts'] at hU
    rcases List.mem_cons.mp hU with rfl | hU
    · rw [own'] at hy
      rcases List.mem_append.mp hy with hy | hy
      · obtain ⟨z, hz', e⟩ := h.all T hT y hy
        exact ⟨z, sub z hz', e⟩
      · rw [List.mem_singleton.mp hy]
        exact ⟨z0, hz, zr⟩
    · obtain ⟨z, hz', e⟩ := h.all U (inS U hU) y hy
      exact ⟨z, sub z hz', e⟩
  · by_cases q : z.1 = x.r
    · refine ⟨T.put x, by rw [ts']; exact List.mem_cons_self, ?_⟩
      rw [own', ofR_one, if_pos q.symm]
      simp
    · obtain ⟨U, hU, n⟩ := h.owd z ((hin z hz').resolve_right fun e => q (by rw [e, zr]))
      rw [tsS] at hU
      rcases List.mem_cons.mp hU with rfl | hU
      · refine ⟨U.put x, by rw [ts']; exact List.mem_cons_self, ?_⟩
        rw [own', ofR_one, if_neg fun e => q e.symm]
        exact n
      · exact ⟨U, by rw [ts']; exact List.mem_cons_of_mem _ hU, n⟩
  · have go2 : ∀ (y : Str × Addr), (y.2 ≠ S.p.b ∧ y.2 ≠ S.p.m ∧ ∀ U ∈ S.ts, y.2 ≠ U.q.o ∧ y.2 ≠ U.q.s) → y.2 ≠ S.p.b ∧ y.2 ≠ S.p.m ∧ ∀ U ∈ SG.ts { S with made := made', held := held', top := some (T.put x) }, y.2 ≠ U.q.o ∧ y.2 ≠ U.q.s := fun y g => by
      refine ⟨g.1, g.2.1, fun U hU => ?_⟩
      rw [ts'] at hU
      rcases List.mem_cons.mp hU with rfl | hU
      · exact g.2.2 T hT
      · exact g.2.2 U (inS U hU)
    rcases hin z hz' with q | q
    · exact go2 z (h.nl z q)
    · rw [q]
      exact go2 z0 nl
  · rcases hin z hz' with q | q
    · exact sF _ (h.fl z q)
    · rw [q]
      exact fz
  · rw [ts']
    refine List.pairwise_cons.mpr ⟨fun U hU => (apT U hU).put tT.ne fun y hy => ⟨fun e => ?_, new U (inS U hU) y hy⟩, (List.pairwise_cons.mp ap).2⟩
    have := List.filter_eq_nil_iff.mp (nrU U hU) y hy
    exact this (decide_eq_true e.symm)
  · have := h.bk.mv (H' := G) (F' := F') (fun y xs _ e => nk e (by simp [kin]) (by simp [kin])) sF
    rw [et] at this
    exact this
  · have := h.wf
    rw [et] at this
    exact wf_put' this
/-- a write without a transaction: only made, kept and the write itself have changed -/
theorem DbG.free {kept' : List Wr} {a dx : Addr} {r : Str} {v hv ft : V} (h : DbG c CW H F S) (sF : ∀ a, F a → F' a) (ha : H a = some (.ins CW dx (wrf r v hv ft))) (new : ∀ U ∈ S.ts, ∀ y ∈ U.e.own, y.a ≠ a) (kp : ∀ b o, H b = some o → b ≠ S.p.m → b ≠ S.p.k → b ≠ a → G b = some o)
    (db : D3 c CW G F' S.d S.p (vT S.top) S.bl made' S.held kept') : DbG c CW G F' { S with made := made', kept := kept' } := by
  have lk : ∀ {b : Addr} {xs : List V}, H b = some (.lst xs) → b ≠ S.p.m → G b = some (.lst xs) := fun {b xs} e n => kp b _ e n (ne_kin e h.db.hk (by simp [kin])) (ne_kin e ha (by simp [kin]))
  refine ⟨db, fun U hU => ?_, fun U hU z hz n => lk (h.hl U hU z hz n) (h.nl z hz).2.1, h.all, h.owd, h.one, h.nl, fun z hz => sF _ (h.fl z hz), h.ap, h.bk.mv (fun y xs _ e => kp _ _ e (ne_kin e h.db.hm (by simp [kin])) (ne_kin e h.db.hk (by simp [kin])) (ne_kin e ha (by simp [kin]))) sF, h.wf, h.hn⟩
  have tU := h.tr U hU
  refine ⟨tU.ne, kp _ _ tU.ht (ne_kin tU.ht h.db.hm (by simp [kin])) (ne_kin tU.ht h.db.hk (by simp [kin])) (ne_kin tU.ht ha (by simp [kin])), lk tU.ho tU.nom, lk tU.hs tU.nsm, fun y hy => ?_, tU.low, tU.nos, tU.nob, tU.nom, tU.nsb, tU.nsm, sF _ tU.ft, sF _ tU.fo, sF _ tU.fs, fun y hy => sF _ (tU.fw y hy)⟩
  obtain ⟨dy, f, e⟩ := tU.hw y hy
  exact ⟨dy, f, kp _ _ e (ne_kin e h.db.hm (by simp [kin])) (ne_kin e h.db.hk (by simp [kin])) (new U hU y hy)⟩
end
end IC
namespace IC
open PySem L2 TL
/-- entering in the present transaction: what is asked, what comes -/
def PsG (c : Cs) (H : Hp) (d : Addr) (p : DbP) (z : Str) (q : TrP) (n : Nat) (st : List V) (Q : VK) (E : XK) : Ek → Prop
  | .pres => ErrQ c.P (fsP (.str z)) H E
  | .doom w => ErrQ c.O (fsD (.str w)) H E
  | .noth => ∀ H', Kp [d] H H' → H' d = some (.ins c.D p.dx (dbf .non p.fl p.b p.m p.h p.k)) → Q (.str "nothing") H'
  | .dooms => ∀ H', Same H H' → Q (.str "dooms") H'
  | .fresh => ∀ (H' : Hp) (t : Addr) (q : TrP), Kp [d] H H' → H t = none → H q.o = none → H q.s = none → TrAt c.T H' t q 1 .non → H' d = some (.ins c.D p.dx (dbf (.ref t) p.fl p.b p.m p.h p.k)) → Q (.str "ends") H'
  | .inner => ∀ H', Kp [q.s] H H' → H' q.s = some (.lst (st ++ [.int n])) → Q (.str "ends") H'
  | _ => True
def spPresG (c : Cs) : Sp := fun vs H Q E => ∃ (d t : Addr) (p : DbP) (z : Str) (q : TrP) (xs st : List V) (f : Option Str), vs = [.ref d, .str z, .ref t] ∧ H d = some (.ins c.D p.dx (dbf (.ref t) p.fl p.b p.m p.h p.k)) ∧ H t = some (.ins c.T q.dx (trf q.o q.s (oV f))) ∧ H q.o = some (.lst xs) ∧ H q.s = some (.lst st) ∧ st.length ≤ 1000 ∧
  PsG c H d p z q xs.length st Q E (entP f z)
section
variable {P : Program} {w : World} {K : PySem.W.Frag} {mg : Str → Option Value} {base : Heap} {c : Cs}
theorem ok_presG {f C p g t : Addr} {mc : Value} {fd : FuncData} (F : Fun K "_enter_present" "Database._enter_present" s_Database__enter_present f fd) (T : Bn mg) (B : DbTxt K mg c) (M : ModeTxt K mg C p g t mc) (E_P : EDf P w K mg base 1 "Present" c.P "mode" fsP)
    (E_O : EDf P w K mg base 1 "Doomed" c.O "first" fsD) (kP : PySem.W.keepIn K (.ref c.P) = true) (kO : PySem.W.keepIn K (.ref c.O) = true) (C_T : CDf P w K mg base 1 "Transaction" c.T (spTrInit c)) :
    FnOk P w K mg base (L2.CX P w) 3 f fd ["self", "mode", "present"] (spPresG c) := by
  refine F.okX sc_Database__enter_present (fun vs H Q E h => ?_) (fun cdv A outer s H vs Q E hr h => ?_)
  · obtain ⟨d, t, p, z, q, xs, st, f, rfl, _⟩ := h
    rfl
  · obtain ⟨d, t, p, z, q, xs, st, f, rfl, hd, ht, ho, hs, hn, k⟩ := h
    refine ⟨_, (pss_cons (ps_if (pt_cmpR op_in_seq (pv 1) (pe_tup (pa_cons (ClX.pe_cval (pe_glob (v := .ref _) rfl M.mo rfl)) (pa_cons (ClX.pe_cval (pe_glob (v := .ref _) rfl M.mo rfl)) pa_nil))) (by rfl))
  (pss_one (ps_raise rfl (takes_of rfl rfl rfl rfl) (pmk_ed E_P kP hr (by decide) rfl (pa_cons (pv 1) pa_nil))))
  pss_nil)
  (pss_cons (ps_if (pt_cmpR op_in_seq (pv 1) (pe_tup (pa_cons (ClX.pe_cval (pe_glob (v := .ref _) rfl M.mo rfl)) (pa_cons (ClX.pe_cval (pe_glob (v := .ref _) rfl M.mo rfl)) (pa_cons (ClX.pe_cval (pe_glob (v := .ref _) rfl M.mo rfl)) pa_nil)))) (by rfl))
  (pss_one (ps_ret (pe_gv B.gD rfl)))
  pss_nil)
  (pss_cons (ps_if (pt_cmpR op_eq (pv 1) (ClX.pe_cval (pe_glob (v := .ref _) rfl M.mo rfl)) (nomark _))
  (pss_cons (ps_fld (pv 0) pe_non rfl)
  (pss_one (ps_ret (pe_gv B.gN rfl))))
  pss_nil)
  (pss_cons (ps_if (pt_cmpR op_eq (pv 1) (ClX.pe_cval (pe_glob (v := .ref _) rfl M.mo rfl)) (nomark _))
  (pss_cons (ps_fld (pv 0) (pe_mk0 C_T hr (by decide) rfl) rfl)
  (pss_one (ps_ret (pe_gv B.gE rfl))))
  pss_nil)
  (pss_cons (ps_if (pt_cmpR op_notN (pe_fld (pv 2) rfl) pe_non (nomark _))
  (pss_one (ps_raise rfl (takes_of rfl rfl rfl rfl) (pmk_ed E_O kO hr (by decide) rfl (pa_cons (pe_fld (pv 2) rfl) pa_nil))))
  pss_nil)
  (pss_cons (ps_expr (pe_bm PySem.F.plainAttrs_list PySem.F.slot_list_append PySem.F.type_list_append mt_append (pe_fld (pv 2) rfl) (pa_cons (pe_callB call_len_seq (by rfl) T.len PySem.boot_len (pa_cons (pe_fld (pv 2) rfl) pa_nil)) pa_nil)))
  (pss_one (ps_ret (pe_gv B.gE rfl))))))))), ?_⟩
    obtain ⟨u1, c1⟩ := M.con "JOIN" "join" (by simp)
    obtain ⟨u3, c3⟩ := M.con "APART" "apart" (by simp)
    obtain ⟨u4, c4⟩ := M.con "MUST" "must" (by simp)
    obtain ⟨u5, c5⟩ := M.con "EITHER" "either" (by simp)
    obtain ⟨u6, c6⟩ := M.con "NEVER" "never" (by simp)
    obtain ⟨u7, c7⟩ := M.con "OUTSIDE" "outside" (by simp)
    obtain ⟨u8, c8⟩ := M.con "ALONE" "alone" (by simp)
    have i : d ∈ [d] := List.mem_singleton.mpr rfl
    refine ⟨_, rfl, C, mc, _, _, rfl, M.rd, c6, C, mc, _, _, rfl, M.rd, c8, (by show 2 ≤ sizeLine; decide), fun y ny => ?_⟩
    refine ⟨y, _, rfl, .inr (SqT.of upd_same), rfl, rfl, _, rfl, ?_⟩
    have s1 := Same.new (o := .tup [.str "never", .str "alone"]) ny
    rw [show (if false = true then _ else _) = _ from if_neg Bool.false_ne_true]
    refine ite2 (fun e1 => ?_) (fun e1 => ?_)
    · have ek : entP f z = .pres := by unfold entP; rw [if_pos e1]
      rw [ek] at k
      exact ⟨_, rfl, mke _ rfl fun x hx => k x _ (s1.trans (Same.new hx)) upd_same⟩
    refine ⟨_, rfl, C, mc, _, _, rfl, M.rd, c1, C, mc, _, _, rfl, M.rd, c4, C, mc, _, _, rfl, M.rd, c5, (by show 3 ≤ sizeLine; decide), fun y2 ny2 => ?_⟩
    refine ⟨y2, _, rfl, .inr (SqT.of upd_same), rfl, rfl, _, rfl, ?_⟩
    have s2 := s1.trans (Same.new (o := .tup [.str "join", .str "must", .str "either"]) ny2)
    rw [show (if false = true then _ else _) = _ from if_neg Bool.false_ne_true]
    refine ite2 (fun e2 => ?_) (fun e2 => ?_)
    · have ek : entP f z = .dooms := by unfold entP; rw [if_neg e1, if_pos e2]
      rw [ek] at k
      exact k _ s2
    refine ⟨_, rfl, C, mc, _, _, rfl, M.rd, c7, rfl, _, rfl, ?_⟩
    have hd2 := s2 _ _ hd
    have ht2 := s2 _ _ ht
    refine ite2 (fun e3 => ?_) (fun e3 => ?_)
    · have ek : entP f z = .noth := by unfold entP; rw [if_neg e1, if_neg e2, if_pos e3]
      rw [ek] at k
      refine ⟨_, rfl, d, c.D, p.dx, _, rfl, hd2, B.cD, B.nP, (by show 6 < 1000; decide), ?_⟩
      exact k _ ((Kp.same s2).mutAt i) upd_same
    refine ⟨_, rfl, C, mc, _, _, rfl, M.rd, c3, rfl, _, rfl, ?_⟩
    refine ite2 (fun e4 => ?_) (fun e4 => ?_)
    · have ek : entP f z = .fresh := by unfold entP; rw [if_neg e1, if_neg e2, if_neg e3, if_pos e4]
      rw [ek] at k
      intro t dx nt nd ne
      refine mk_tr nt nd ne fun H1 q s3 no ns tr => ⟨rfl, ?_⟩
      have s0 := s2.trans s3
      have hd1 := s0 _ _ hd
      refine ⟨_, rfl, d, c.D, p.dx, _, rfl, hd1, B.cD, B.nP, (by show 6 < 1000; decide), ?_⟩
      exact k _ t q ((Kp.same s0).mutAt i) (none_of (none_of nt).2).2 (none_of (none_of no).2).2 (none_of (none_of ns).2).2 (tr.mv (Kp.at_ i) (by simpa using ne_kin tr.1 hd1 (by simp [kin])) (by simpa using ne_kin tr.2.1 hd1 (by simp [kin])) (by simpa using ne_kin tr.2.2.1 hd1 (by simp [kin]))) upd_same
    refine ⟨_, rfl, t, c.T, q.dx, _, oV f, rfl, ht2, B.cT, B.n1, rfl, rfl, _, rfl, ?_⟩
    cases f with
    | some w =>
      have ek : entP (some w) z = .doom w := by unfold entP; rw [if_neg e1, if_neg e2, if_neg e3, if_neg e4]
      rw [ek] at k
      exact ⟨_, rfl, t, c.T, q.dx, _, .str w, rfl, ht2, B.cT, B.n1, rfl, mke _ rfl fun x hx => k x _ (s2.trans (Same.new hx)) upd_same⟩
    | none =>
      have ek : entP none z = .inner := by unfold entP; rw [if_neg e1, if_neg e2, if_neg e3, if_neg e4]
      rw [ek] at k
      refine ⟨_, rfl, t, c.T, q.dx, _, .ref q.s, rfl, ht2, B.cT, B.nS, rfl, .inl ⟨rfl, _, SqL.of (s2 _ _ hs)⟩, ?_⟩
      refine ⟨_, rfl, t, c.T, q.dx, _, .ref q.o, rfl, ht2, B.cT, B.nO, rfl, q.o, _, rfl, .inl (SqL.of (s2 _ _ ho)), ?_⟩
      refine ⟨q.s, _, _, rfl, rfl, s2 _ _ hs, small1000 hn, ?_⟩
      exact k _ ((Kp.same s2).mutAt (List.mem_singleton.mpr rfl)) upd_same
end
end IC
namespace IC
open PySem L2 TL
section
variable {c : Cs} {CW : Addr} {H G : Hp} {F F' : Addr → Prop} {S S' : SG}
/-- places that are none of d and the blocks' list stand -/
theorem TrG.far {p : DbP} {T : Tr} {d : Addr} {pv : V} {bl : List Addr} {made : List V} {held : List (Str × Addr)} {kept : List Wr} (h : TrG c CW H F p T) (g : D3 c CW H F d p pv bl made held kept) (sF : ∀ a, F a → F' a) (kp : ∀ b o, H b = some o → b ≠ d → b ≠ p.b → G b = some o) : TrG c CW G F' p T :=
  ⟨h.ne, kp _ _ h.ht (ne_kin h.ht g.hd (by simp [kin])) (ne_kin h.ht g.hb (by simp [kin])), kp _ _ h.ho (ne_kin h.ho g.hd (by simp [kin])) h.nob, kp _ _ h.hs (ne_kin h.hs g.hd (by simp [kin])) h.nsb,
    fun x hx => by
      obtain ⟨dx, f, e⟩ := h.hw x hx
      exact ⟨dx, f, kp _ _ e (ne_kin e g.hd (by simp [kin])) (ne_kin e g.hb (by simp [kin]))⟩, h.low, h.nos, h.nob, h.nom, h.nsb, h.nsm, sF _ h.ft, sF _ h.fo, sF _ h.fs, fun x hx => sF _ (h.fw x hx)⟩
/-- the transactions are the same, the present one may be another -/
theorem DbG.re (h : DbG c CW H F S) (ets : S'.ts = S.ts) (ep : S'.p = S.p) (eh : S'.held = S.held) (sF : ∀ a, F a → F' a) (kp : ∀ b o, H b = some o → b ≠ S.d → b ≠ S.p.b → G b = some o)
    (db : D3 c CW G F' S'.d S'.p (vT S'.top) S'.bl S'.made S'.held S'.kept) (bk : BkR G F' S'.bl.reverse (blkOf S'.sorts (vT S'.top :: S'.sus.map vT))) (wf : Wf S'.sorts (eT S'.top :: S'.sus.map eT)) : DbG c CW G F' S' := by
  refine ⟨db, fun T hT => ?_, fun T hT z hz n => ?_, ?_, ?_, ?_, ?_, ?_, ?_, bk, wf, by rw [eh]; exact h.hn⟩
  · rw [ets] at hT
    rw [ep]
    exact (h.tr T hT).far h.db sF kp
  · rw [ets] at hT
    rw [eh] at hz
    have e := h.hl T hT z hz n
    exact kp _ _ e (ne_kin e h.db.hd (by simp [kin])) (h.nl z hz).1
  · rw [ets, eh]; exact h.all
  · rw [ets, eh]; exact h.owd
  · rw [eh]; exact h.one
  · rw [ets, eh, ep]; exact h.nl
  · rw [eh]; exact fun z hz => sF _ (h.fl z hz)
  · rw [ets]; exact h.ap
/-- a transaction begins -/
theorem DbG.begin {T : Tr} (h : DbG c CW H F S) (ets : S'.ts = T :: S.ts) (ep : S'.p = S.p) (eh : S'.held = S.held) (sF : ∀ a, F a → F' a) (kp : ∀ b o, H b = some o → b ≠ S.d → b ≠ S.p.b → G b = some o) (eT' : T.e = [⟨none, []⟩]) (tT : TrG c CW G F' S.p T) (nt : H T.t = none) (no : H T.q.o = none) (ns : H T.q.s = none)
    (db : D3 c CW G F' S'.d S'.p (vT S'.top) S'.bl S'.made S'.held S'.kept) (bk : BkR G F' S'.bl.reverse (blkOf S'.sorts (vT S'.top :: S'.sus.map vT))) (wf : Wf S'.sorts (eT S'.top :: S'.sus.map eT)) : DbG c CW G F' S' := by
  have own0 : T.e.own = [] := by rw [eT']; rfl
  have rs : ∀ r, ofR T.e.own r = [] := fun r => by rw [own0]; rfl
  refine ⟨db, fun U hU => ?_, fun U hU z hz n => ?_, fun U hU x hx => ?_, fun z hz => ?_, ?_, fun z hz => ?_, ?_, ?_, bk, wf, by rw [eh]; exact h.hn⟩
  · rw [ets] at hU
    rw [ep]
    rcases List.mem_cons.mp hU with rfl | hU
    · exact tT
    · exact (h.tr U hU).far h.db sF kp
  · rw [ets] at hU
    rw [eh] at hz
    rcases List.mem_cons.mp hU with rfl | hU
    · exact absurd (rs z.1) n
    · have e := h.hl U hU z hz n
      exact kp _ _ e (ne_kin e h.db.hd (by simp [kin])) (h.nl z hz).1
  · rw [ets] at hU
    rw [eh]
    rcases List.mem_cons.mp hU with rfl | hU
    · rw [own0] at hx
      cases hx
    · exact h.all U hU x hx
  · rw [eh] at hz
    obtain ⟨U, hU, n⟩ := h.owd z hz
    exact ⟨U, by rw [ets]; exact List.mem_cons_of_mem _ hU, n⟩
  · rw [eh]; exact h.one
  · rw [eh] at hz
    rw [ep]
    have g := h.nl z hz
    obtain ⟨W, hW, n⟩ := h.owd z hz
    have al := h.hl W hW z hz n
    refine ⟨g.1, g.2.1, fun U hU => ?_⟩
    rw [ets] at hU
    rcases List.mem_cons.mp hU with rfl | hU
    · exact ⟨ne_of_none al no, ne_of_none al ns⟩
    · exact g.2.2 U hU
  · rw [eh]; exact fun z hz => sF _ (h.fl z hz)
  · rw [ets]
    refine List.pairwise_cons.mpr ⟨fun U hU => ?_, h.ap⟩
    have tU := h.tr U hU
    refine ⟨(ne_of_none tU.ht nt).symm, (ne_of_none tU.ho no).symm, (ne_of_none tU.hs no).symm, (ne_of_none tU.ho ns).symm, (ne_of_none tU.hs ns).symm, fun x hx => ?_⟩
    rw [own0] at hx
    cases hx
/-- a level begins -/
theorem DbG.up {T : Tr} (h : DbG c CW H F S) (et : S.top = some T) (ew : T.e.why = none) (etop : S'.top = some ⟨T.t, T.q, ⟨none, []⟩ :: T.e⟩) (es : S'.sus = S.sus) (ep : S'.p = S.p) (eh : S'.held = S.held) (sF : ∀ a, F a → F' a) (kp : ∀ b o, H b = some o → b ≠ S.p.b → b ≠ T.q.s → G b = some o)
    (gs : G T.q.s = some (.lst ((T.e.starts ++ [T.e.own.length]).map fun n : Nat => V.int (n : Int)))) (db : D3 c CW G F' S'.d S'.p (vT S'.top) S'.bl S'.made S'.held S'.kept) (bk : BkR G F' S'.bl.reverse (blkOf S'.sorts (vT S'.top :: S'.sus.map vT))) (wf : Wf S'.sorts (eT S'.top :: S'.sus.map eT)) : DbG c CW G F' S' := by
  have own' : En.own (⟨none, []⟩ :: T.e) = T.e.own := by rw [own_cons]; exact List.append_nil _
  have tsS : S.ts = T :: S.sus.filterMap id := by unfold SG.ts; rw [et]; rfl
  have ets : S'.ts = ⟨T.t, T.q, ⟨none, []⟩ :: T.e⟩ :: S.sus.filterMap id := by unfold SG.ts; rw [etop, es]; rfl
  have hT := SG.topMem et
  have tT := h.tr T hT
  have inS : ∀ U ∈ S.sus.filterMap id, U ∈ S.ts := fun U hU => by rw [tsS]; exact List.mem_cons_of_mem _ hU
  have ap := h.ap
  rw [tsS] at ap
  have apT := (List.pairwise_cons.mp ap).1
  have nk : ∀ {b : Addr} {o : HO}, H b = some o → kin o ≠ 1 → G b = some o := fun {b o} e n => kp b o e (ne_kin e h.db.hb n) (ne_kin e tT.hs n)
  have wk : ∀ {hv : V} {y : Wr}, WAt CW H hv y → WAt CW G hv y := fun {hv y} ⟨dx, f, e⟩ => ⟨dx, f, nk e (by simp [kin])⟩
  refine ⟨db, fun U hU => ?_, fun U hU z hz n => ?_, fun U hU x hx => ?_, fun z hz => ?_, ?_, fun z hz => ?_, ?_, ?_, bk, wf, by rw [eh]; exact h.hn⟩
  · rw [ets] at hU
    rw [ep]
    rcases List.mem_cons.mp hU with rfl | hU
    · refine ⟨by simp, ?_, ?_, gs, fun x hx => ?_, fun l hl => ?_, tT.nos, tT.nob, tT.nom, tT.nsb, tT.nsm, sF _ tT.ft, sF _ tT.fo, sF _ tT.fs, fun x hx => ?_⟩
      · show G T.t = some (.ins c.T T.q.dx (trf T.q.o T.q.s (oV none)))
        rw [← ew]
        exact nk tT.ht (by simp [kin])
      · rw [own']
        exact kp _ _ tT.ho tT.nob tT.nos
      · rw [own'] at hx
        exact wk (tT.hw x hx)
      · have hl : l ∈ T.e := hl
        cases ee : T.e with
        | nil => rw [ee] at hl; cases hl
        | cons l0 e =>
          rw [ee] at hl ew
          rcases List.mem_cons.mp hl with rfl | hl
          · exact ew
          · exact tT.low l (by rw [ee]; exact hl)
      · rw [own'] at hx
        exact sF _ (tT.fw x hx)
    · have tU := h.tr U (inS U hU)
      have aU := apT U hU
      exact ⟨tU.ne, nk tU.ht (by simp [kin]), kp _ _ tU.ho tU.nob aU.2.2.2.1.symm, kp _ _ tU.hs tU.nsb aU.2.2.2.2.1.symm, fun x hx => wk (tU.hw x hx), tU.low, tU.nos, tU.nob, tU.nom, tU.nsb, tU.nsm, sF _ tU.ft, sF _ tU.fo, sF _ tU.fs, fun x hx => sF _ (tU.fw x hx)⟩
  · rw [ets] at hU
    rw [eh] at hz
    have g := h.nl z hz
    rcases List.mem_cons.mp hU with rfl | hU
    · rw [own'] at n ⊢
      exact kp _ _ (h.hl T hT z hz n) g.1 (g.2.2 T hT).2
    · exact kp _ _ (h.hl U (inS U hU) z hz n) g.1 (g.2.2 T hT).2
  · rw [ets] at hU
    rw [eh]
    rcases List.mem_cons.mp hU with rfl | hU
    · rw [own'] at hx
      exact h.all T hT x hx
    · exact h.all U (inS U hU) x hx
  · rw [eh] at hz
    obtain ⟨U, hU, n⟩ := h.owd z hz
    rw [tsS] at hU
    rcases List.mem_cons.mp hU with rfl | hU
    · exact ⟨_, by rw [ets]; exact List.mem_cons_self, by rw [own']; exact n⟩
    · exact ⟨U, by rw [ets]; exact List.mem_cons_of_mem _ hU, n⟩
  · rw [eh]; exact h.one
  · rw [eh] at hz
    rw [ep]
    have g := h.nl z hz
    refine ⟨g.1, g.2.1, fun U hU => ?_⟩
    rw [ets] at hU
    rcases List.mem_cons.mp hU with rfl | hU
    · exact g.2.2 T hT
    · exact g.2.2 U (inS U hU)
  · rw [eh]; exact fun z hz => sF _ (h.fl z hz)
  · rw [ets]
    refine List.pairwise_cons.mpr ⟨fun U hU => ?_, (List.pairwise_cons.mp ap).2⟩
    have a := apT U hU
    refine ⟨a.1, a.2.1, a.2.2.1, a.2.2.2.1, a.2.2.2.2.1, fun x hx => ?_⟩
    rw [own'] at hx
    exact a.2.2.2.2.2 x hx
/-- only the present transaction's field has changed -/
theorem D3.kp {d : Addr} {p : DbP} {uv pv : V} {bl : List Addr} {made : List V} {held : List (Str × Addr)} {kept : List Wr} (h : D3 c CW H F d p pv bl made held kept) (k : Kp [d] H G) (e : G d = some (.ins c.D p.dx (dbf uv p.fl p.b p.m p.h p.k))) (s : ∀ x, F x → F' x) : D3 c CW G F' d p uv bl made held kept := by
  have go : ∀ {b : Addr} {o : HO}, H b = some o → kin o ≠ 16 → G b = some o := fun {b o} q n => k _ _ q (by simpa using ne_kin q h.hd (by simpa [kin] using n))
  exact ⟨e, go h.hb (by simp [kin]), go h.hm (by simp [kin]), go h.hh (by simp [kin]), go h.hk (by simp [kin]), fun x hx => let ⟨v, dx, f, q⟩ := h.hw x hx; ⟨v, dx, f, go q (by simp [kin])⟩, h.nbm, h.nhk, s _ h.fd, s _ h.fb, s _ h.fm, s _ h.fh, s _ h.fk, fun x hx => s _ (h.fw x hx)⟩
/-- a list that is none of the database's has changed -/
theorem D3.kpL {d a : Addr} {p : DbP} {pv : V} {bl : List Addr} {made xs : List V} {held : List (Str × Addr)} {kept : List Wr} (h : D3 c CW H F d p pv bl made held kept) (k : Kp [a] H G) (ha : H a = some (.lst xs)) (n1 : p.b ≠ a) (n2 : p.m ≠ a) : D3 c CW G F d p pv bl made held kept := by
  have go : ∀ {b : Addr} {o : HO}, H b = some o → kin o ≠ 1 → G b = some o := fun {b o} q n => k _ _ q (by simpa using ne_kin q ha n)
  exact ⟨go h.hd (by simp [kin]), k _ _ h.hb (by simpa using n1), k _ _ h.hm (by simpa using n2), go h.hh (by simp [kin]), go h.hk (by simp [kin]), fun x hx => let ⟨v, dx, f, q⟩ := h.hw x hx; ⟨v, dx, f, go q (by simp [kin])⟩, h.nbm, h.nhk, h.fd, h.fb, h.fm, h.fh, h.fk, h.fw⟩
theorem wf_outside {s : List So} {e : En} {r : List En} (n : e ≠ []) (h : Wf s (e :: r)) : Wf (.outside :: s) ([] :: e :: r) := by
  cases e with
  | nil => exact absurd rfl n
  | cons l e => exact h
theorem wf_joined {s : List So} {e : En} {r : List En} (n : e ≠ []) (h : Wf s (e :: r)) : Wf (.joined :: s) (e :: r) := by
  cases e with
  | nil => exact absurd rfl n
  | cons l e => exact h
theorem wf_level {s : List So} {e : En} {r : List En} {l : Lv} (n : e ≠ []) (h : Wf s (e :: r)) : Wf (.level :: s) ((l :: e) :: r) := by
  cases e with
  | nil => exact absurd rfl n
  | cons l e => exact h
end
end IC
namespace IC
open PySem L2 TL
section
variable {P : Program} {w : World} {K : PySem.W.Frag} {mg : Str → Option Value} {base : Heap} {c : Cs}
theorem ok_enter_free {f C p g t : Addr} {mc : Value} {fd : FuncData} (F : Fun K "_enter_free" "Database._enter_free" s_Database__enter_free f fd) (B : DbTxt K mg c) (M : ModeTxt K mg C p g t mc) (E_M : EDf P w K mg base 1 "Missing" c.M "mode" fsM)
    (kM : PySem.W.keepIn K (.ref c.M) = true) (C_T : CDf P w K mg base 1 "Transaction" c.T (spTrInit c)) : FnOk P w K mg base (L2.CX P w) 3 f fd ["self", "mode"] (spFree c) := by
  refine F.okX sc_Database__enter_free (fun vs H Q E h => ?_) (fun cdv A outer s H vs Q E hr h => ?_)
  · obtain ⟨d, p, bs, z, rfl, _⟩ := h
    rfl
  · obtain ⟨d, p, bs, z, rfl, hd, k⟩ := h
    refine ⟨_, (pss_cons (ps_if (pt_cmpR op_eq (pv 1) (ClX.pe_cval (pe_glob (v := .ref _) rfl M.mo rfl)) (nomark _))
  (pss_one (ps_raise rfl (takes_of rfl rfl rfl rfl) (pmk_ed E_M kM hr (by decide) rfl (pa_cons (pv 1) pa_nil))))
  pss_nil)
  (pss_cons (ps_if (pt_cmpR op_in_seq (pv 1) (pe_tup (pa_cons (ClX.pe_cval (pe_glob (v := .ref _) rfl M.mo rfl)) (pa_cons (ClX.pe_cval (pe_glob (v := .ref _) rfl M.mo rfl)) (pa_cons (ClX.pe_cval (pe_glob (v := .ref _) rfl M.mo rfl)) pa_nil)))) (by rfl))
  (pss_one (ps_ret (pe_gv B.gN rfl)))
  pss_nil)
  (pss_cons (ps_fld (pv 0) (pe_mk0 C_T hr (by decide) rfl) rfl)
  (pss_one (ps_ret (pe_gv B.gE rfl)))))), ?_⟩
    obtain ⟨u4, c4⟩ := M.con "MUST" "must" (by simp)
    obtain ⟨u5, c5⟩ := M.con "EITHER" "either" (by simp)
    obtain ⟨u6, c6⟩ := M.con "NEVER" "never" (by simp)
    obtain ⟨u7, c7⟩ := M.con "OUTSIDE" "outside" (by simp)
    refine ⟨_, rfl, C, mc, _, _, rfl, M.rd, c4, rfl, _, rfl, ?_⟩
    refine ite2 (fun e1 => ?_) (fun e1 => ?_)
    · have ek : entF z = .miss := by unfold entF; rw [if_pos e1]
      rw [ek] at k
      exact ⟨_, rfl, mke _ rfl fun x hx => k x _ (Same.new hx) upd_same⟩
    refine ⟨_, rfl, C, mc, _, _, rfl, M.rd, c5, C, mc, _, _, rfl, M.rd, c6, C, mc, _, _, rfl, M.rd, c7, (by show 3 ≤ sizeLine; decide), fun y ny => ?_⟩
    refine ⟨y, _, rfl, .inr (SqT.of upd_same), rfl, rfl, _, rfl, ?_⟩
    rw [show (if false = true then _ else _) = _ from if_neg Bool.false_ne_true]
    refine ite2 (fun e2 => ?_) (fun e2 => ?_)
    · have ek : entF z = .noth := by unfold entF; rw [if_neg e1, if_pos e2]
      rw [ek] at k
      exact k _ (Same.new ny)
    have ek : entF z = .fresh := by unfold entF; rw [if_neg e1, if_neg e2]
    rw [ek] at k
    intro t dx nt nd ne
    refine mk_tr nt nd ne fun H1 q s1 no ns tr => ⟨rfl, ?_⟩
    have s0 := (Same.new (o := .tup [.str "either", .str "never", .str "outside"]) ny).trans s1
    have hd1 := hd.same s0
    have dt := hd1.dt tr
    have i : d ∈ [d] := List.mem_singleton.mpr rfl
    refine ⟨_, rfl, d, c.D, p.dx, _, rfl, hd1.1, B.cD, B.nP, (by show 6 < 1000; decide), ?_⟩
    exact k _ t q ((Kp.same s0).mutAt i) (none_of nt).2 (none_of no).2 (none_of ns).2 (tr.mv (Kp.at_ i) (by simpa using dt.1) (by simpa using dt.2.1) (by simpa using dt.2.2.1)) ⟨upd_same, by rw [upd_ne hd.db]; exact hd1.2⟩
end
end IC
namespace IC
open PySem L2 TL
def kG (S : SG) (z : Str) : Ek := match S.top with
  | none => entF z
  | some T => entP T.e.why z
def EntR (S S' : SG) : Ek → Prop
  | .noth => S'.top = none ∧ ((S.top = none ∧ S'.sus = S.sus ∧ S'.sorts = .plain :: S.sorts) ∨ (S.top ≠ none ∧ S'.sus = S.top :: S.sus ∧ S'.sorts = .outside :: S.sorts))
  | .dooms => S'.top = S.top ∧ S'.sus = S.sus ∧ S'.sorts = .joined :: S.sorts
  | .fresh => ∃ t q, S'.top = some ⟨t, q, [⟨none, []⟩]⟩ ∧ S'.sus = S.top :: S.sus ∧ S'.sorts = .base :: S.sorts
  | .inner => ∃ T : Tr, S.top = some T ∧ S'.top = some ⟨T.t, T.q, ⟨none, []⟩ :: T.e⟩ ∧ S'.sus = S.sus ∧ S'.sorts = .level :: S.sorts
  | _ => False
def EnG (c : Cs) (CW : Addr) (H : Hp) (F : Addr → Prop) (S : SG) (z : Str) (Q : VK) (E : XK) : Ek → Prop
  | .miss => ErrQ c.M (fsM (.str z)) H E
  | .pres => ErrQ c.P (fsP (.str z)) H E
  | .doom w => ErrQ c.O (fsD (.str w)) H E
  | k => ∀ (H' : Hp) (F' : Addr → Prop) (S' : SG), Fr F F' H H' → DbG c CW H' F' S' → Wst H H' → S'.d = S.d → S'.p = S.p → S'.made = S.made → S'.kept = S.kept → S'.held = S.held → S'.bl.length = S.bl.length + 1 → EntR S S' k → Q .non H'
def spEnterG (c : Cs) (CW : Addr) : Sp := fun vs H Q E => ∃ (S : SG) (F : Addr → Prop) (z : Str), vs = [.ref S.d, .str z] ∧ z ∈ modesS ∧ DbG c CW H F S ∧ SzG S 900 ∧ EnG c CW H F S z Q E (kG S z)
section
variable {P : Program} {w : World} {K : PySem.W.Frag} {mg : Str → Option Value} {base : Heap} {c : Cs} {CW : Addr}
theorem len_own_starts (T : Tr) : (T.e.starts.map fun n : Nat => V.int (n : Int)).length = T.e.length := by rw [List.length_map, starts_len]
theorem ok_enterG {f C p g t : Addr} {mc : Value} {fd fdm : FuncData} (F : Fun K "enter" "Database.enter" s_Database_enter f fd) (B : DbTxt K mg c) (M : ModeTxt K mg C p g t mc) (F_is_mode : FnOk P w K mg base CX0 1 g fdm ["thing"] (spIsMode K)) (b_is_mode : Binds K fdm ["thing"] [])
    (M_enter_free : MDf P w K mg base (L2.CX P w) 3 c.D "_enter_free" ["self", "mode"] [] (spFree c)) (M_enter_present : MDf P w K mg base (L2.CX P w) 3 c.D "_enter_present" ["self", "mode", "present"] [] (spPresG c)) :
    FnOk P w K mg base (L2.CX P w) 4 f fd ["self", "mode"] (spEnterG c CW) := by
  refine F.okX sc_Database_enter (fun vs H Q E h => ?_) (fun cdv A outer s H vs Q E hr h => ?_)
  · obtain ⟨S, F, z, rfl, _⟩ := h
    rfl
  · obtain ⟨S, F, z, rfl, hm, hd, sz, k⟩ := h
    refine ⟨_, (pss_cons (ps_if (pt_not (pt_val (pe_smeth (pe_glob (v := .ref _) rfl M.mo rfl) M.sm F_is_mode b_is_mode hr (by decide) (pa_cons (pv 1) pa_nil))))
  (pss_one ps_dead)
  pss_nil)
  (pss_cons (ps_set (i := 2) sc_Database_enter.nd rfl (Or.inl rfl) (pe_fld (pv 0) rfl))
  (Evl.pss_cut (ps_if (pt_cmpR op_isN (pv 2) pe_non (nomark _))
  (pss_one (ps_set (i := 3) sc_Database_enter.nd rfl (Or.inl rfl) (pe_mdX M_enter_free B.cD (takes_of rfl rfl rfl rfl) hr (by decide) (pv 0) (pa_cons (pv 1) pa_nil))))
  (pss_one (ps_set (i := 3) sc_Database_enter.nd rfl (Or.inl rfl) (pe_mdX M_enter_present B.cD (takes_of rfl rfl rfl rfl) hr (by decide) (pv 0) (pa_cons (pv 1) (pa_cons (pv 2) pa_nil))))))
  (pss_one (ps_expr (pe_bm PySem.F.plainAttrs_list PySem.F.slot_list_append PySem.F.type_list_append mt_append (pe_fld (pv 0) rfl) (pa_cons (pe_tup (pa_cons (pv 3) (pa_cons (pv 2) pa_nil))) pa_nil))))))), ?_⟩
    refine ⟨rfl, _, rfl, _, rfl, .inl ⟨z, rfl, ?_⟩⟩
    rw [mode_in hm]
    refine ⟨true, rfl, iteF ?_⟩
    have hdb := hd.db
    refine ⟨_, rfl, S.d, c.D, S.p.dx, _, vT S.top, rfl, hdb.hd, B.cD, B.nP, rfl, ?_⟩
    refine ⟨fun σ' H' => ∃ (eff : Str) (uv : V) (F' : Addr → Prop), σ' = [some (.ref S.d), some (.str z), some (vT S.top), some (.str eff)] ∧ D3 c CW H' F' S.d S.p uv S.bl S.made S.held S.kept ∧
      (∀ y, H' y = none → D3 c CW (upd (upd H' y (.tup [.str eff, vT S.top])) S.p.b (.lst ((S.bl ++ [y]).map V.ref))) (fun x => F' x ∨ x = y) S.d S.p uv (S.bl ++ [y]) S.made S.held S.kept →
      upd (upd H' y (.tup [.str eff, vT S.top])) S.p.b (.lst ((S.bl ++ [y]).map V.ref)) y = some (.tup [.str eff, vT S.top]) → Fr F' (fun x => F' x ∨ x = y) H' (upd (upd H' y (.tup [.str eff, vT S.top])) S.p.b (.lst ((S.bl ++ [y]).map V.ref))) →
      (∀ a o, H' a = some o → a ≠ S.p.b → upd (upd H' y (.tup [.str eff, vT S.top])) S.p.b (.lst ((S.bl ++ [y]).map V.ref)) a = some o) →
      Q .non (upd (upd H' y (.tup [.str eff, vT S.top])) S.p.b (.lst ((S.bl ++ [y]).map V.ref)))), ?_, ?_⟩
    · have rev : ∀ y, (S.bl ++ [y]).reverse = y :: S.bl.reverse := fun y => by rw [List.reverse_append]; rfl
      have ln : ∀ y, (S.bl ++ [y]).length = S.bl.length + 1 := fun y => by rw [List.length_append]; rfl
      cases et : S.top with
      | none =>
        have kk0 : kG S z = entF z := by unfold kG; rw [et]
        rw [kk0] at k
        rw [et] at hdb
        refine ⟨_, rfl, rfl, _, rfl, iteT ?_⟩
        refine ⟨_, rfl, S.d, S.p.dx, _, rfl, hdb.hd, rfl, _, rfl, S.d, S.p, S.bl.map V.ref, z, rfl, ⟨hdb.hd, hdb.hb⟩, ?_⟩
        have bk0 := hd.bk
        have wf0 := hd.wf
        rw [et] at bk0 wf0
        revert k
        cases entF z with
        | miss => exact fun k => k
        | noth =>
          refine fun k H' s => ⟨_, _, F, rfl, hdb.mv (fun x o _ e => s x o e) fun _ z => z, fun y ny db2 hy fr2 kk => ?_⟩
          refine k _ (fun x => F x ∨ x = y) { S with bl := S.bl ++ [y], sorts := .plain :: S.sorts } ((Fr.same s).trans fr2) (hd.re rfl rfl rfl (fun _ h => .inl h) (fun b o e _ n => kk b o (s b o e) n) (by rw [et]; exact db2) ?_ (by rw [et]; exact wf0)) (fun b o e kq => kk b o (s b o e) (ne14 e kq hdb.hb)) rfl rfl rfl rfl rfl (ln y) ⟨et, .inl ⟨et, rfl, rfl⟩⟩
          show BkR _ _ (S.bl ++ [y]).reverse (blkOf (.plain :: S.sorts) (vT S.top :: _))
          rw [rev, et]
          exact ⟨⟨hy, .inr rfl⟩, bk0.mv (fun x xs _ e => kk x _ (s _ _ e) (ne_kin e hdb.hb (by simp [kin]))) fun _ h => .inl h⟩
        | fresh =>
          intro k H' t q kp nt no ns tr db1
          have sF : ∀ x, F x → (fun x => F x ∨ x = t ∨ x = q.o ∨ x = q.s) x := fun x h => .inl h
          have frA : Fr F (fun x => F x ∨ x = t ∨ x = q.o ∨ x = q.s) H H' := ⟨fun x o e n => kp x o e (by simpa using fun q => n (by rw [q]; exact hdb.fd)), sF, fun x h => h.imp id fun h => by rcases h with rfl | rfl | rfl <;> assumption⟩
          refine ⟨_, _, _, rfl, hdb.kp kp db1.1 sF, fun y ny db2 hy fr2 kk => ?_⟩
          have nb : ∀ {x : Addr}, H x = none → x ≠ S.p.b := fun e q => by rw [q, hdb.hb] at e; cases e
          have nm : ∀ {x : Addr}, H x = none → x ≠ S.p.m := fun e q => by rw [q, hdb.hm] at e; cases e
          have tG : TrG c CW (upd (upd H' y (.tup [.str "ends", .non])) S.p.b (.lst ((S.bl ++ [y]).map V.ref))) (fun x => (F x ∨ x = t ∨ x = q.o ∨ x = q.s) ∨ x = y) S.p ⟨t, q, [⟨none, []⟩]⟩ :=
            ⟨by simp, kk _ _ tr.1 (nb nt), kk _ _ tr.2.1 (nb no), kk _ _ tr.2.2.1 (nb ns), nofun, nofun, tr.2.2.2, nb no, nm no, nb ns, nm ns, .inl (.inr (.inl rfl)), .inl (.inr (.inr (.inl rfl))), .inl (.inr (.inr (.inr rfl))), nofun⟩
          refine k _ _ { S with bl := S.bl ++ [y], top := some ⟨t, q, [⟨none, []⟩]⟩, sus := S.top :: S.sus, sorts := .base :: S.sorts } (frA.trans fr2) (hd.begin (T := ⟨t, q, [⟨none, []⟩]⟩) ?_ rfl rfl (fun x h => .inl (.inl h)) (fun b o e n1 n2 => kk b o (kp b o e (by simpa using n1)) n2) rfl tG nt no ns db2 ?_ ?_) (fun b o e kq => kk b o (kp b o e (by simpa using ne14 e kq hdb.hd)) (ne14 e kq hdb.hb)) rfl rfl rfl rfl rfl (ln y) ⟨t, q, rfl, rfl, rfl⟩
          · unfold SG.ts
            rw [et]
            rfl
          · show BkR _ _ (S.bl ++ [y]).reverse (blkOf (.base :: S.sorts) (.ref t :: vT S.top :: _))
            rw [rev, et]
            exact ⟨⟨hy, .inr rfl⟩, bk0.mv (fun x xs _ e => kk x _ (kp _ _ e (by simpa using ne_kin e hdb.hd (by simp [kin]))) (ne_kin e hdb.hb (by simp [kin]))) fun _ h => .inl (.inl h)⟩
          · rw [et]
            exact wf0
        | pres => exact fun _ => trivial
        | doom _ => exact fun _ => trivial
        | dooms => exact fun _ => trivial
        | inner => exact fun _ => trivial
      | some T =>
        have tT := hd.tr T (SG.topMem et)
        have kk0 : kG S z = entP T.e.why z := by unfold kG; rw [et]
        rw [kk0] at k
        rw [et] at hdb
        have zT := (sz.2.2.2.2 T (SG.topMem et)).2
        refine ⟨_, rfl, rfl, _, rfl, iteF ?_⟩
        refine ⟨_, rfl, S.d, S.p.dx, _, rfl, hdb.hd, rfl, _, rfl, _, rfl, S.d, T.t, S.p, z, T.q, _, _, T.e.why, rfl, hdb.hd, tT.ht, tT.ho, tT.hs, (by rw [len_own_starts]; omega), ?_⟩
        have bk0 := hd.bk
        have wf0 := hd.wf
        rw [et] at bk0 wf0
        have tsS : S.ts = T :: S.sus.filterMap id := by unfold SG.ts; rw [et]; rfl
        have f0 : entP T.e.why z = .inner → T.e.why = none := by
          intro e
          cases hw : T.e.why with
          | none => rfl
          | some u =>
            rw [hw] at e
            unfold entP at e
            split at e
            · cases e
            · split at e
              · cases e
              · split at e
                · cases e
                · split at e
                  · cases e
                  · cases e
        revert k f0
        cases entP T.e.why z with
        | miss => exact fun _ _ => trivial
        | pres => exact fun k _ => k
        | doom u => exact fun k _ => k
        | noth =>
          intro k _ H' kp e
          refine ⟨_, _, F, rfl, hdb.kp kp e fun _ z => z, fun y ny db2 hy fr2 kk => ?_⟩
          have frA : Fr F F H H' := ⟨fun x o e n => kp x o e (by simpa using fun q => n (by rw [q]; exact hdb.fd)), fun _ h => h, fun _ h => .inl h⟩
          refine k _ (fun x => F x ∨ x = y) { S with bl := S.bl ++ [y], top := none, sus := S.top :: S.sus, sorts := .outside :: S.sorts } (frA.trans fr2) (hd.re ?_ rfl rfl (fun _ h => .inl h) (fun b o e n1 n2 => kk b o (kp b o e (by simpa using n1)) n2) db2 ?_ ?_) (fun b o e kq => kk b o (kp b o e (by simpa using ne14 e kq hdb.hd)) (ne14 e kq hdb.hb)) rfl rfl rfl rfl rfl (ln y) ⟨rfl, .inr ⟨by rw [et]; simp, rfl, rfl⟩⟩
          · rw [tsS]
            unfold SG.ts
            rw [et]
            rfl
          · show BkR _ _ (S.bl ++ [y]).reverse (blkOf (.outside :: S.sorts) (.non :: vT S.top :: _))
            rw [rev, et]
            exact ⟨⟨hy, .inr rfl⟩, bk0.mv (fun x xs _ e => kk x _ (kp _ _ e (by simpa using ne_kin e hdb.hd (by simp [kin]))) (ne_kin e hdb.hb (by simp [kin]))) fun _ h => .inl h⟩
          · rw [et]
            exact wf_outside tT.ne wf0
        | dooms =>
          intro k _ H' s
          refine ⟨_, _, F, rfl, hdb.mv (fun x o _ e => s x o e) fun _ z => z, fun y ny db2 hy fr2 kk => ?_⟩
          refine k _ (fun x => F x ∨ x = y) { S with bl := S.bl ++ [y], sorts := .joined :: S.sorts } ((Fr.same s).trans fr2) (hd.re rfl rfl rfl (fun _ h => .inl h) (fun b o e _ n => kk b o (s b o e) n) (by rw [et]; exact db2) ?_ ?_) (fun b o e kq => kk b o (s b o e) (ne14 e kq hdb.hb)) rfl rfl rfl rfl rfl (ln y) ⟨rfl, rfl, rfl⟩
          · show BkR _ _ (S.bl ++ [y]).reverse (blkOf (.joined :: S.sorts) (vT S.top :: _))
            rw [rev, et]
            exact ⟨⟨hy, .inr rfl⟩, bk0.mv (fun x xs _ e => kk x _ (s _ _ e) (ne_kin e hdb.hb (by simp [kin]))) fun _ h => .inl h⟩
          · rw [et]
            exact wf_joined tT.ne wf0
        | fresh =>
          intro k _ H' t q kp nt no ns tr e1
          have sF : ∀ x, F x → (fun x => F x ∨ x = t ∨ x = q.o ∨ x = q.s) x := fun x h => .inl h
          have frA : Fr F (fun x => F x ∨ x = t ∨ x = q.o ∨ x = q.s) H H' := ⟨fun x o e n => kp x o e (by simpa using fun q => n (by rw [q]; exact hdb.fd)), sF, fun x h => h.imp id fun h => by rcases h with rfl | rfl | rfl <;> assumption⟩
          refine ⟨_, _, _, rfl, hdb.kp kp e1 sF, fun y ny db2 hy fr2 kk => ?_⟩
          have nb : ∀ {x : Addr}, H x = none → x ≠ S.p.b := fun e q => by rw [q, hdb.hb] at e; cases e
          have nm : ∀ {x : Addr}, H x = none → x ≠ S.p.m := fun e q => by rw [q, hdb.hm] at e; cases e
          have tG : TrG c CW (upd (upd H' y (.tup [.str "ends", .ref T.t])) S.p.b (.lst ((S.bl ++ [y]).map V.ref))) (fun x => (F x ∨ x = t ∨ x = q.o ∨ x = q.s) ∨ x = y) S.p ⟨t, q, [⟨none, []⟩]⟩ :=
            ⟨by simp, kk _ _ tr.1 (nb nt), kk _ _ tr.2.1 (nb no), kk _ _ tr.2.2.1 (nb ns), nofun, nofun, tr.2.2.2, nb no, nm no, nb ns, nm ns, .inl (.inr (.inl rfl)), .inl (.inr (.inr (.inl rfl))), .inl (.inr (.inr (.inr rfl))), nofun⟩
          refine k _ _ { S with bl := S.bl ++ [y], top := some ⟨t, q, [⟨none, []⟩]⟩, sus := S.top :: S.sus, sorts := .base :: S.sorts } (frA.trans fr2) (hd.begin (T := ⟨t, q, [⟨none, []⟩]⟩) ?_ rfl rfl (fun x h => .inl (.inl h)) (fun b o e n1 n2 => kk b o (kp b o e (by simpa using n1)) n2) rfl tG nt no ns db2 ?_ ?_) (fun b o e kq => kk b o (kp b o e (by simpa using ne14 e kq hdb.hd)) (ne14 e kq hdb.hb)) rfl rfl rfl rfl rfl (ln y) ⟨t, q, rfl, rfl, rfl⟩
          · rw [tsS]
            unfold SG.ts
            rw [et]
            rfl
          · show BkR _ _ (S.bl ++ [y]).reverse (blkOf (.base :: S.sorts) (.ref t :: vT S.top :: _))
            rw [rev, et]
            exact ⟨⟨hy, .inr rfl⟩, bk0.mv (fun x xs _ e => kk x _ (kp _ _ e (by simpa using ne_kin e hdb.hd (by simp [kin]))) (ne_kin e hdb.hb (by simp [kin]))) fun _ h => .inl (.inl h)⟩
          · rw [et]
            exact wf0
        | inner =>
          intro k f0 H' kp e1
          have frA : Fr F F H H' := ⟨fun x o e n => kp x o e (by simpa using fun q => n (by rw [q]; exact tT.fs)), fun _ h => h, fun _ h => .inl h⟩
          refine ⟨_, _, F, rfl, hdb.kpL kp tT.hs tT.nsb.symm tT.nsm.symm, fun y ny db2 hy fr2 kk => ?_⟩
          refine k _ (fun x => F x ∨ x = y) { S with bl := S.bl ++ [y], top := some ⟨T.t, T.q, ⟨none, []⟩ :: T.e⟩, sorts := .level :: S.sorts } (frA.trans fr2) (hd.up et (f0 rfl) rfl rfl rfl rfl (fun _ h => .inl h) (fun b o e n1 n2 => kk b o (kp b o e (by simpa using n2)) n1) ?_ db2 ?_ ?_) (fun b o e kq => kk b o (kp b o e (by simpa using ne14 e kq tT.hs)) (ne14 e kq hdb.hb)) rfl rfl rfl rfl rfl (ln y) ⟨T, et, rfl, rfl, rfl⟩
          · rw [show (T.e.starts ++ [T.e.own.length]).map (fun n : Nat => V.int (n : Int)) = T.e.starts.map (fun n : Nat => V.int (n : Int)) ++ [V.int (T.e.own.length : Int)] from by rw [List.map_append]; rfl]
            have e2 : (refs T.e.own).length = T.e.own.length := List.length_map ..
            rw [e2] at e1
            exact kk _ _ e1 tT.nsb
          · show BkR _ _ (S.bl ++ [y]).reverse (blkOf (.level :: S.sorts) (.ref T.t :: _))
            rw [rev]
            exact ⟨⟨hy, .inr rfl⟩, bk0.mv (fun x xs _ e => kk x _ (kp _ _ e (by simpa using ne_kin e tT.hs (by simp [kin]))) (ne_kin e hdb.hb (by simp [kin]))) fun _ h => .inl h⟩
          · exact wf_level tT.ne wf0
    · rintro σ' H' ⟨eff, uv, F', rfl, db, k'⟩
      refine ⟨_, rfl, S.d, c.D, S.p.dx, _, _, rfl, db.hd, B.cD, B.nB, rfl, .inl ⟨rfl, _, SqL.of db.hb⟩, ?_⟩
      refine ⟨_, rfl, _, rfl, (by show 2 ≤ sizeLine; decide), fun y ny => ?_⟩
      have e4 : S.bl.map V.ref ++ [V.ref y] = (S.bl ++ [y]).map V.ref := by rw [List.map_append]; rfl
      have zb := sz.2.1
      refine ⟨S.p.b, _, _, rfl, rfl, (by rw [upd_ne (ne_of_none db.hb ny)]; exact db.hb), small1000 (by rw [List.length_map]; omega), ?_⟩
      rw [e4]
      have d1 : D3 c CW (upd H' y (.tup [.str eff, vT S.top])) (fun x => F' x ∨ x = y) S.d S.p uv S.bl S.made S.held S.kept := db.mv (fun x o _ e => by rw [upd_ne (ne_of_none e ny)]; exact e) fun x h => .inl h
      refine k' y ny (d1.setBl _) ?_ ?_ fun a o e n => ?_
      · rw [upd_ne (ne_of_none db.hb ny).symm, upd_same]
      · exact (Fr.add ny).trans (Fr.at_ d1.fb)
      · rw [upd_ne n, upd_ne (ne_of_none e ny)]
        exact e
end
end IC
namespace IC
open PySem L2 TL
def rest (held : List (Str × Addr)) (l : List Wr) : List (Str × Addr) := held.filter fun z => !(l.any fun x => decide (x.r = z.1))
theorem rest_nil (held : List (Str × Addr)) : rest held [] = held := List.filter_eq_self.mpr fun _ _ => rfl
theorem rest_snoc (held : List (Str × Addr)) (l : List Wr) (x : Wr) : (rest held l).filter (fun z => decide (z.1 ≠ x.r)) = rest held (l ++ [x]) := by
  unfold rest
  rw [List.filter_filter]
  apply List.filter_congr
  intro z _
  rw [List.any_append, List.any_cons, List.any_nil, Bool.or_false, Bool.not_or, Bool.and_comm]
  congr 1
  by_cases e : x.r = z.1
  · simp [e]
  · have e2 : ¬ z.1 = x.r := fun q => e q.symm
    simp [e, e2]
section
variable {P : Program} {w : World} {K : PySem.W.Frag} {mg : Str → Option Value} {base : Heap} {c : Cs} {CW : Addr}
structure KGv (c : Cs) (CW : Addr) (H H' : Hp) (F : Addr → Prop) (d t : Addr) (p : DbP) (pv : V) (bl : List Addr) (made : List V) (held : List (Str × Addr)) (kept own done : List Wr) (q : TrP) : Prop where
  fr : Fr F F H H'
  db : D3 c CW H' F d p pv bl made (rest held done) (done.foldl putW kept)
  ho : H' q.o = some (.lst (refs own))
  hw : ∀ x ∈ own, WAt CW H' (.ref t) x
  dn : ∀ x ∈ done, ∃ dx, H' x.a = some (.ins CW dx (wrf x.r x.v (.ref t) (.str "kept")))
  out : ∀ b o, H b = some o → b ≠ p.k → b ≠ p.h → (∀ x ∈ own, b ≠ x.a) → H' b = some o
theorem len_fold (own : List Wr) : ∀ kept : List Wr, (own.foldl putW kept).length ≤ kept.length + own.length := by
  induction own with
  | nil => exact fun _ => Nat.le_refl _
  | cons x l ih =>
    intro kept
    have := ih (putW kept x)
    have := len_putW kept x
    rw [List.foldl_cons, List.length_cons]
    omega
/-- the writes own are kept; what others hold stays -/
def spKeepG (c : Cs) (CW : Addr) : Sp := fun vs H Q _ => ∃ (d t : Addr) (p : DbP) (pv : V) (bl : List Addr) (made : List V) (held : List (Str × Addr)) (kept own : List Wr) (F : Addr → Prop) (q : TrP) (fv : V), vs = [.ref d, .ref t] ∧ D3 c CW H F d p pv bl made held kept ∧
  H t = some (.ins c.T q.dx (trf q.o q.s fv)) ∧ H q.o = some (.lst (refs own)) ∧ (∀ x ∈ own, WAt CW H (.ref t) x ∧ F x.a) ∧ own.length ≤ 900 ∧ kept.length + own.length ≤ 1800 ∧
  ∀ H', KGv c CW H H' F d t p pv bl made held kept own own q → Q .non H'
theorem ok_keepG {f : Addr} {fd : FuncData} (F : Fun K "_keep" "Database._keep" s_Database__keep f fd) (B : DbTxt K mg c) (W : WTxt K c CW) : FnOk P w K mg base CX0 1 f fd ["self", "transaction"] (spKeepG c CW) := by
  refine F.ok sc_Database__keep (fun vs H Q E h => ?_) (fun cdv A outer s H vs Q E hr h => ?_)
  · obtain ⟨d, t, p, uv, bl, made, held, kept, own, F, q, fv, rfl, _⟩ := h
    rfl
  · obtain ⟨d, t, p, uv, bl, made, held, kept, own, F, q, fv, rfl, db, ht, ho, hw, l1, l2, k⟩ := h
    have hu := hu_of hr
    refine ⟨_, (pss_one (ps_for PassesOwn.never rfl (pi_list (pe_fld (pv 1) rfl)) (pg_name (i := 2) sc_Database__keep.nd rfl (Or.inl rfl))
  (pss_cons (ps_fld (pv 2) pe_str rfl)
  (pss_cons (ps_dput hu (pe_fld (pv 0) rfl) (pe_fld (pv 2) rfl) (pv 2) rfl)
  (pss_one (ps_expr (pe_dpop2 (pe_fld (pv 0) rfl) (pe_fld (pv 2) rfl) pe_non ⟨by rfl, by rfl, by rfl, by rfl⟩))))))), ?_⟩
    refine ⟨_, rfl, t, c.T, q.dx, _, _, rfl, ht, B.cT, B.nO, rfl, q.o, rfl, ⟨_, SqL.of ho⟩, for_list (K := K) (a := q.o) (xs := refs own) (fun i σ H' => ∃ wv, σ = [some (.ref d), some (.ref t), wv] ∧ KGv c CW H H' F d t p uv bl made held kept own (own.take i) q)
      ⟨none, rfl, Fr.refl _ _, by rw [List.take_zero, rest_nil]; exact db, ho, fun x hx => (hw x hx).1, nofun, fun _ _ e _ _ _ => e⟩ (fun i σ H' _ e => ?_) (fun i x σ H' hi e => ?_) (fun σ H' e => ?_)⟩
    · obtain ⟨wv, rfl, I⟩ := e
      exact SqL.of I.ho
    · obtain ⟨wv, rfl, I⟩ := e
      have hi2 : own[i]?.map (fun x => V.ref x.a) = some x := by rw [← List.getElem?_map]; exact hi
      obtain ⟨y, hy, rfl⟩ := Option.map_eq_some_iff.mp hi2
      have ym : y ∈ own := List.mem_of_getElem? hy
      obtain ⟨dx, ft, ew⟩ := I.hw y ym
      have fy := (hw y ym).2
      have tk : own.take (i + 1) = own.take i ++ [y] := by rw [List.take_add_one, hy]; rfl
      have lk : ((own.take i).foldl putW kept).length ≤ 1800 := by
        have a := len_fold (own.take i) kept
        have b : (own.take i).length ≤ own.length := by rw [List.length_take]; exact Nat.min_le_right _ _
        omega
      refine ⟨_, rfl, y.a, CW, dx, _, rfl, ew, W.cW, W.nF, (by show 4 < 1000; decide), ?_⟩
      have d1 := I.db.fate (f' := "kept") ew
      have w1 : ∀ x ∈ own, WAt CW (upd H' y.a (.ins CW dx (wrf y.r y.v (.ref t) (.str "kept")))) (.ref t) x := fun x hx => by
        obtain ⟨dx2, f2, e2⟩ := I.hw x hx
        by_cases q : x.a = y.a
        · rw [q, ew] at e2
          injection e2 with e2
          injection e2 with _ e3 e4
          simp only [List.cons.injEq, Prod.mk.injEq, V.str.injEq, true_and, and_true] at e4
          exact ⟨dx, "kept", by rw [q, upd_same, e4.1, e4.2.1]⟩
        · exact ⟨dx2, f2, by rw [upd_ne q]; exact e2⟩
      refine ⟨_, rfl, _, rfl, d, c.D, p.dx, _, _, rfl, d1.hd, B.cD, B.nK, rfl, _, rfl, y.a, CW, dx, _, _, rfl, upd_same, W.cW, W.nR, rfl, p.k, _, rfl, DPut.k (k := .inr y.r) d1.hk (Nat.lt_of_le_of_lt (show (kd ((own.take i).foldl putW kept)).length ≤ 1800 by rw [len_kd]; exact lk) (by decide)), ?_⟩
      have d2 := d1.setKept (x := y) (w1 y ym) fy
      have e5 : upd (upd H' y.a (.ins CW dx (wrf y.r y.v (.ref t) (.str "kept")))) p.k (.dK (putK (kd ((own.take i).foldl putW kept)) (.inr y.r) (.ref y.a))) y.a = some (.ins CW dx (wrf y.r y.v (.ref t) (.str "kept"))) := by
        rw [upd_ne (ne_kin upd_same d1.hk (by simp [kin])), upd_same]
      have sv : ∀ a o, H' a = some o → kin o ≠ 14 → kin o ≠ 3 → upd (upd H' y.a (.ins CW dx (wrf y.r y.v (.ref t) (.str "kept")))) p.k (.dK (putK (kd ((own.take i).foldl putW kept)) (.inr y.r) (.ref y.a))) a = some o := fun a o e n1 n2 => by
        rw [upd_ne (ne_kin e I.db.hk n2), upd_ne (ne_kin e ew n1)]
        exact e
      have w2 : ∀ x ∈ own, WAt CW (upd (upd H' y.a (.ins CW dx (wrf y.r y.v (.ref t) (.str "kept")))) p.k (.dK (putK (kd ((own.take i).foldl putW kept)) (.inr y.r) (.ref y.a)))) (.ref t) x := fun x hx => by
        obtain ⟨dx2, f2, e2⟩ := w1 x hx
        exact ⟨dx2, f2, by rw [upd_ne (ne_kin e2 d1.hk (by simp [kin]))]; exact e2⟩
      have dn2 : ∀ x ∈ own.take (i + 1), ∃ dz, upd (upd H' y.a (.ins CW dx (wrf y.r y.v (.ref t) (.str "kept")))) p.k (.dK (putK (kd ((own.take i).foldl putW kept)) (.inr y.r) (.ref y.a))) x.a = some (.ins CW dz (wrf x.r x.v (.ref t) (.str "kept"))) := fun x hx => by
        have xo : x ∈ own := List.mem_of_mem_take hx
        obtain ⟨dx2, f2, e2⟩ := I.hw x xo
        by_cases q : x.a = y.a
        · rw [q, ew] at e2
          injection e2 with e2
          injection e2 with _ e3 e4
          simp only [List.cons.injEq, Prod.mk.injEq, V.str.injEq, true_and, and_true] at e4
          exact ⟨dx, by rw [q, e5, e4.1, e4.2.1]⟩
        · rw [tk] at hx
          rcases List.mem_append.mp hx with hx | hx
          · obtain ⟨dx3, e3⟩ := I.dn x hx
            exact ⟨dx3, by rw [upd_ne (ne_kin e3 I.db.hk (by simp [kin])), upd_ne q]; exact e3⟩
          · rw [List.mem_singleton.mp hx] at q
            exact absurd rfl q
      have fr2 := I.fr.trans ((Fr.at_ (o := .ins CW dx (wrf y.r y.v (.ref t) (.str "kept"))) fy).trans (Fr.at_ (o := .dK (putK (kd ((own.take i).foldl putW kept)) (.inr y.r) (.ref y.a))) I.db.fk))
      have fold : (own.take (i + 1)).foldl putW kept = putW ((own.take i).foldl putW kept) y := by rw [tk, List.foldl_append]; rfl
      refine ⟨_, rfl, d, c.D, p.dx, _, _, rfl, d2.hd, B.cD, B.nH, rfl, p.h, rfl, .inl ⟨_, .inl d2.hh⟩, _, rfl, y.a, CW, dx, _, _, rfl, e5, W.cW, W.nR, rfl, _, .inr y.r, d2.hh, rfl, fun v _ => ?_, fun e6 => ?_⟩
      · rw [dropK_hd3, rest_snoc, ← tk]
        refine ⟨_, rfl, fr2.trans (Fr.at_ I.db.fh), ?_, ?_, fun x hx => ?_, fun x hx => ?_, fun b o e n1 n2 n3 => ?_⟩
        · rw [fold]
          exact d2.setHeld _
        · rw [upd_ne (ne_kin (sv _ _ I.ho (by simp [kin]) (by simp [kin])) d2.hh (by simp [kin]))]
          exact sv _ _ I.ho (by simp [kin]) (by simp [kin])
        · obtain ⟨dx2, f2, e2⟩ := w2 x hx
          exact ⟨dx2, f2, by rw [upd_ne (ne_kin e2 d2.hh (by simp [kin]))]; exact e2⟩
        · obtain ⟨dx2, e2⟩ := dn2 x hx
          exact ⟨dx2, by rw [upd_ne (ne_kin e2 d2.hh (by simp [kin]))]; exact e2⟩
        · rw [upd_ne n2, upd_ne n1, upd_ne (n3 y ym)]
          exact I.out b o e n1 n2 n3
      · have er : rest held (own.take (i + 1)) = rest held (own.take i) := by
          rw [tk, ← rest_snoc]
          refine List.filter_eq_self.mpr fun z hz => decide_eq_true fun q => ?_
          rw [valV_hd3, Option.map_eq_none_iff, List.find?_eq_none] at e6
          exact e6 z hz (decide_eq_true q)
        refine ⟨_, rfl, fr2, ?_, sv _ _ I.ho (by simp [kin]) (by simp [kin]), w2, dn2, fun b o e n1 n2 n3 => ?_⟩
        · rw [fold, er]
          exact d2
        · rw [upd_ne n1, upd_ne (n3 y ym)]
          exact I.out b o e n1 n2 n3
    · obtain ⟨wv, rfl, I⟩ := e
      have e1 : own.take (refs own).length = own := by
        unfold refs
        rw [List.length_map, List.take_length]
      rw [e1] at I
      exact k _ I
end
end IC
namespace IC
open PySem L2 TL
inductive EndK where
  | undo : EndK
  | plain : EndK
  | keep : EndK
def endO (err : Option Str) (goes : Bool) (l : Lv) (e : En) : EndK × Str :=
  match err, l.why, e, goes with
  | some _, _, _, _ => (.undo, "")
  | none, some _, _, _ => (.undo, "doomed")
  | none, none, _ :: _, _ => (.plain, "")
  | none, none, [], true => (.keep, "")
  | none, none, [], false => (.undo, "refused")
/-- the top level l of the transaction T ends; e are those below -/
def spEndLG (c : Cs) (CW : Addr) : Sp := fun vs H Q _ => ∃ (d : Addr) (p : DbP) (uv : V) (bl : List Addr) (made : List V) (held : List (Str × Addr)) (kept : List Wr) (F : Addr → Prop) (T : Tr) (l : Lv) (e : En) (err : Option Str) (goes : Bool), vs = [.ref d, .ref T.t, oV err, .bl goes] ∧ D3 c CW H F d p uv bl made held kept ∧ TrG c CW H F p T ∧ T.e = l :: e ∧
  HT H F p T.q.o held T.e.own ∧ (∀ z ∈ held, z.2 ≠ T.q.s) ∧ T.e.own.length ≤ 900 ∧ kept.length ≤ 900 ∧ T.e.length ≤ 900 ∧
  ∀ H2, Fr F F H H2 → D3 c CW H2 F d p uv bl made held kept → (∀ b o, H b = some o → b ≠ T.q.s → b ≠ T.t → H2 b = some o) → H2 T.q.s = some (.lst (e.starts.map fun n : Nat => V.int (n : Int))) → H2 T.t = some (.ins c.T T.q.dx (trf T.q.o T.q.s .non)) →
    (match endO err goes l e with
     | (.undo, r) => ∀ H', UInv c CW H2 H' F d T.t p uv bl made held kept e.own l.ws [] l.ws T.q.o → Q (.str r) H'
     | (.plain, r) => Q (.str r) H2
     | (.keep, r) => ∀ H', KGv c CW H2 H' F d T.t p uv bl made held kept T.e.own T.e.own T.q → Q (.str r) H')
section
variable {P : Program} {w : World} {K : PySem.W.Frag} {mg : Str → Option Value} {base : Heap} {c : Cs} {CW : Addr}
theorem ok_end_levelG {f : Addr} {fd : FuncData} (F : Fun K "_end_level" "Database._end_level" s_Database__end_level f fd) (B : DbTxt K mg c) (M_keep : MDf P w K mg base CX0 1 c.D "_keep" ["self", "transaction"] [] (spKeepG c CW)) (M_undo : MDf P w K mg base CX0 1 c.D "_undo" ["self", "transaction", "start"] [] (spUndoG c CW)) :
    FnOk P w K mg base CX0 2 f fd ["self", "transaction", "error", "commits"] (spEndLG c CW) := by
  refine F.ok sc_Database__end_level (fun vs H Q E h => ?_) (fun cdv A outer s H vs Q E hr h => ?_)
  · obtain ⟨d, p, uv, bl, made, held, kept, F, T, l, e, err, goes, rfl, _⟩ := h
    rfl
  · obtain ⟨d, p, uv, bl, made, held, kept, F, T, l, e, err, goes, rfl, db, tr, eTe, hh, nzs, l1, l2, l3, k⟩ := h
    refine ⟨_, (pss_cons (ps_set (i := 4) sc_Database__end_level.nd rfl (Or.inl rfl) (pe_bm0 PySem.F.plainAttrs_list PySem.F.slot_list_pop PySem.F.type_list_pop mt_pop (pe_fld (pv 1) rfl)))
  (pss_cons (ps_set (i := 5) sc_Database__end_level.nd rfl (Or.inl rfl) (pe_fld (pv 1) rfl))
  (pss_cons (ps_fld (pv 1) pe_non rfl)
  (pss_cons (ps_if (PW.pt (pw_or (pt_cmpR op_notN (pv 2) pe_non (nomark _)) (pw_or1 (pt_cmpR op_notN (pv 5) pe_non (nomark _)))))
  (pss_cons (ps_expr (pe_md M_undo B.cD hr (by decide) (pv 0) (pa_cons (pv 1) (pa_cons (pv 4) pa_nil))))
  (pss_one (ps_ret (pe_ifExp (pt_cmpR op_notN (pv 2) pe_non (nomark _)) pe_str pe_str))))
  pss_nil)
  (pss_cons (ps_if (pt_truth (pe_fld (pv 1) rfl) (by intro _; rfl))
  (pss_one (ps_ret pe_str))
  pss_nil)
  (pss_cons (ps_if (pt_not (pt_val (pv 3)))
  (pss_cons (ps_expr (pe_md M_undo B.cD hr (by decide) (pv 0) (pa_cons (pv 1) (pa_cons (pv 4) pa_nil))))
  (pss_one (ps_ret pe_str)))
  pss_nil)
  (pss_cons (ps_expr (pe_md M_keep B.cD hr (by decide) (pv 0) (pa_cons (pv 1) pa_nil)))
  (pss_one (ps_ret pe_str))))))))), ?_⟩
    have st : T.e.starts.map (fun n : Nat => V.int (n : Int)) = e.starts.map (fun n : Nat => V.int (n : Int)) ++ [V.int (e.own.length : Int)] := by
      rw [eTe, show En.starts (l :: e) = e.starts ++ [e.own.length] from rfl, List.map_append]
      rfl
    have hs := tr.hs
    rw [st] at hs
    have ow : T.e.own = e.own ++ l.ws := by rw [eTe, own_cons]
    have wy : T.e.why = l.why := by rw [eTe]; rfl
    refine ⟨_, rfl, T.t, c.T, T.q.dx, _, _, rfl, tr.ht, B.cT, B.nS, rfl, .inl ⟨rfl, _, SqL.of hs⟩, T.q.s, _, .int e.own.length, rfl, rfl, hs, ?_, ?_⟩
    · rw [List.length_append, List.length_singleton, Nat.add_sub_cancel, List.getElem?_append_right (Nat.le_refl _), Nat.sub_self]
      rfl
    rw [List.dropLast_concat]
    have d1 := db.offL (o := .lst (e.starts.map fun n : Nat => V.int (n : Int))) tr.hs tr.nsb.symm tr.nsm.symm
    have t1 : upd H T.q.s (.lst (e.starts.map fun n : Nat => V.int (n : Int))) T.t = some (.ins c.T T.q.dx (trf T.q.o T.q.s (oV T.e.why))) := by
      rw [upd_ne (ne_kin tr.ht tr.hs (by simp [kin]))]
      exact tr.ht
    refine ⟨_, rfl, T.t, c.T, T.q.dx, _, _, rfl, t1, B.cT, B.n1, rfl, ?_⟩
    refine ⟨_, rfl, T.t, c.T, T.q.dx, _, rfl, t1, B.cT, B.n1, (by show 3 < 1000; decide), ?_⟩
    have d2 := d1.offT (o := .ins c.T T.q.dx (trf T.q.o T.q.s .non)) t1
    have s2 : upd (upd H T.q.s (.lst (e.starts.map fun n : Nat => V.int (n : Int)))) T.t (.ins c.T T.q.dx (trf T.q.o T.q.s .non)) T.q.s = some (.lst (e.starts.map fun n : Nat => V.int (n : Int))) := by
      rw [upd_ne (ne_kin tr.hs tr.ht (by simp [kin])), upd_same]
    have nn : ∀ a o, H a = some o → a ≠ T.q.s → a ≠ T.t → upd (upd H T.q.s (.lst (e.starts.map fun n : Nat => V.int (n : Int)))) T.t (.ins c.T T.q.dx (trf T.q.o T.q.s .non)) a = some o := fun a o e n1 n2 => by
      rw [upd_ne n2, upd_ne n1]
      exact e
    have t2 := (upd_same : upd (upd H T.q.s (.lst (e.starts.map fun n : Nat => V.int (n : Int)))) T.t (.ins c.T T.q.dx (trf T.q.o T.q.s .non)) T.t = _)
    have fr2 : Fr F F H (upd (upd H T.q.s (.lst (e.starts.map fun n : Nat => V.int (n : Int)))) T.t (.ins c.T T.q.dx (trf T.q.o T.q.s .non))) := (Fr.at_ tr.fs).trans (Fr.at_ tr.ft)
    have k := k _ fr2 d2 nn s2 t2
    have o2 := nn _ _ tr.ho tr.nos (ne_kin tr.ho tr.ht (by simp [kin]))
    have w2 : ∀ x ∈ T.e.own, WAt CW (upd (upd H T.q.s (.lst (e.starts.map fun n : Nat => V.int (n : Int)))) T.t (.ins c.T T.q.dx (trf T.q.o T.q.s .non))) (.ref T.t) x ∧ F x.a := fun x hx => by
      obtain ⟨dx, f, q⟩ := tr.hw x hx
      exact ⟨⟨dx, f, nn _ _ q (ne_kin q tr.hs (by simp [kin])) (ne_kin q tr.ht (by simp [kin]))⟩, tr.fw x hx⟩
    have h2 : HT (upd (upd H T.q.s (.lst (e.starts.map fun n : Nat => V.int (n : Int)))) T.t (.ins c.T T.q.dx (trf T.q.o T.q.s .non))) F p T.q.o held T.e.own := ⟨hh.all, fun z hz n => nn _ _ (hh.hl z hz n) (nzs z hz) (ne_kin (hh.hl z hz n) tr.ht (by simp [kin])), hh.one, hh.nl, hh.fl⟩
    rw [wy]
    rw [ow] at o2 h2 w2
    cases err with
    | some u =>
      refine ⟨_, rfl, rfl, _, rfl, iteT (iteT ?_)⟩
      exact ⟨_, rfl, d, p.dx, _, rfl, d2.hd, rfl, _, rfl, _, rfl, d, T.t, p, uv, bl, made, held, kept, e.own, l.ws, F, T.q, .non, rfl, d2, t2, o2, tr.fo, tr.nob, tr.nom, w2, h2, fun H' U => ⟨_, rfl, rfl, _, rfl, iteT (k H' U)⟩⟩
    | none =>
      refine ⟨_, rfl, rfl, _, rfl, iteF ?_⟩
      cases hw : l.why with
      | some u =>
        unfold endO at k
        rw [hw] at k
        refine ⟨_, rfl, rfl, _, rfl, iteT ?_⟩
        exact ⟨_, rfl, d, p.dx, _, rfl, d2.hd, rfl, _, rfl, _, rfl, d, T.t, p, uv, bl, made, held, kept, e.own, l.ws, F, T.q, .non, rfl, d2, t2, o2, tr.fo, tr.nob, tr.nom, w2, h2, fun H' U => ⟨_, rfl, rfl, _, rfl, iteF (k H' U)⟩⟩
      | none =>
        unfold endO at k
        rw [hw] at k
        refine ⟨_, rfl, rfl, _, rfl, iteF ?_⟩
        refine ⟨_, rfl, T.t, c.T, T.q.dx, _, _, rfl, t2, B.cT, B.nS, rfl, _, .inl ⟨_, SqL.of s2, rfl⟩, ?_⟩
        cases e with
        | cons l2 e2 =>
          rw [show (!(List.map (fun n : Nat => V.int (n : Int)) (En.starts (l2 :: e2))).isEmpty) = true from by
            rw [show En.starts (l2 :: e2) = En.starts e2 ++ [(En.own e2).length] from rfl, List.map_append]
            cases List.map (fun n : Nat => V.int (n : Int)) (En.starts e2) <;> rfl]
          exact iteT k
        | nil =>
          refine iteF ?_
          cases goes with
          | false =>
            refine ⟨_, rfl, false, rfl, iteT ?_⟩
            exact ⟨_, rfl, d, p.dx, _, rfl, d2.hd, rfl, _, rfl, _, rfl, d, T.t, p, uv, bl, made, held, kept, [], l.ws, F, T.q, .non, rfl, d2, t2, o2, tr.fo, tr.nob, tr.nom, w2, h2, fun H' U => k H' U⟩
          | true =>
            refine ⟨_, rfl, true, rfl, iteF ?_⟩
            rw [← ow] at o2 w2
            exact ⟨_, rfl, d, p.dx, _, rfl, d2.hd, rfl, _, rfl, d, T.t, p, uv, bl, made, held, kept, T.e.own, F, T.q, .non, rfl, d2, t2, o2, w2, l1, by omega, fun H' U => k H' U⟩
end
end IC
namespace IC
open PySem L2 TL
/-- the top level is doomed by w, unless it is already -/
def spTrDoomG (c : Cs) : Sp := fun vs H Q _ => ∃ (t : Addr) (q : TrP) (f : Option Str) (w : Str), vs = [.ref t, .str w] ∧ H t = some (.ins c.T q.dx (trf q.o q.s (oV f))) ∧ ∀ H', Kp [t] H H' → H' t = some (.ins c.T q.dx (trf q.o q.s (oV (some (f.getD w))))) → Q .non H'
section
variable {P : Program} {w : World} {K : PySem.W.Frag} {mg : Str → Option Value} {base : Heap} {c : Cs}
theorem ok_tr_doomG {f : Addr} {fd : FuncData} (F : Fun K "doom" "Transaction.doom" s_Transaction_doom f fd) (B : DbTxt K mg c) : FnOk P w K mg base CX0 1 f fd ["self", "first"] (spTrDoomG c) := by
  refine F.ok sc_Transaction_doom (fun vs H Q E h => ?_) (fun cdv A outer s H vs Q E hr h => ?_)
  · obtain ⟨t, q, f, w, rfl, _⟩ := h
    rfl
  · obtain ⟨t, q, f, w, rfl, ht, k⟩ := h
    refine ⟨_, (pss_one (ps_if (pt_cmpR op_isN (pe_fld (pv 0) rfl) pe_non (nomark _))
  (pss_one (ps_fld (pv 0) (pv 1) rfl))
  pss_nil)), ?_⟩
    refine ⟨_, rfl, t, c.T, q.dx, _, oV f, rfl, ht, B.cT, B.n1, rfl, rfl, _, rfl, ?_⟩
    cases f with
    | some u => exact k H (Kp.refl _ _) ht
    | none =>
      refine ⟨_, rfl, _, rfl, t, c.T, q.dx, _, rfl, ht, B.cT, B.n1, (by show 3 < 1000; decide), ?_⟩
      exact k _ (Kp.at_ (List.mem_singleton.mpr rfl)) upd_same
end
/-! ### leaving blocks that end no level -/
section
variable {c : Cs} {CW : Addr} {H G : Hp} {F F' : Addr → Prop} {S : SG}
/-- a block that had no effect is left -/
theorem DbG.leavePlain {s : List So} {bl : List Addr} {y : Addr} (h : DbG c CW H F S) (es : S.sorts = .plain :: s) (eb : S.bl = bl ++ [y]) (kp : ∀ b o, H b = some o → b ≠ S.d → b ≠ S.p.b → G b = some o) (db : D3 c CW G F S.d S.p (vT S.top) bl S.made S.held S.kept) : DbG c CW G F { S with bl := bl, sorts := s } := by
  have bk := h.bk
  have wf := h.wf
  rw [es, eb, List.reverse_append] at bk
  rw [es] at wf
  have et : S.top = none := by
    cases e : S.top with
    | none => rfl
    | some T =>
      rw [e] at wf
      cases ee : T.e with
      | nil => exact absurd ee (h.tr T (SG.topMem e)).ne
      | cons l r =>
        have wf : Wf (.plain :: s) (T.e :: _) := wf
        rw [ee] at wf
        exact wf.elim
  refine h.re rfl rfl rfl (fun _ z => z) kp db (bk.2.mv (fun x xs _ e => kp _ _ e (ne_kin e h.db.hd (by simp [kin])) (ne_kin e h.db.hb (by simp [kin]))) fun _ z => z) ?_
  rw [et] at wf ⊢
  exact wf
/-- a block behind which the suspended transaction is present again, none before -/
theorem DbG.leaveOutside {s : List So} {bl : List Addr} {y : Addr} {T : Tr} {r : List (Option Tr)} (h : DbG c CW H F S) (et : S.top = none) (es : S.sorts = .outside :: s) (eb : S.bl = bl ++ [y]) (eu : S.sus = some T :: r) (kp : ∀ b o, H b = some o → b ≠ S.d → b ≠ S.p.b → G b = some o) (db : D3 c CW G F S.d S.p (.ref T.t) bl S.made S.held S.kept) :
    DbG c CW G F { S with bl := bl, sorts := s, top := some T, sus := r } := by
  have bk := h.bk
  have wf := h.wf
  rw [es, eb, List.reverse_append, et, eu] at bk
  rw [es, et, eu] at wf
  refine h.re ?_ rfl rfl (fun _ z => z) kp db (bk.2.mv (fun x xs _ e => kp _ _ e (ne_kin e h.db.hd (by simp [kin])) (ne_kin e h.db.hb (by simp [kin]))) fun _ z => z) ?_
  · unfold SG.ts
    rw [et, eu]
    rfl
  · have ne : T.e ≠ [] := (h.tr T (SG.mem_ts.mpr (.inr (by rw [eu]; exact List.mem_cons_self)))).ne
    show Wf s (T.e :: r.map eT)
    have wf : Wf (.outside :: s) ([] :: T.e :: r.map eT) := wf
    cases ee : T.e with
    | nil => exact absurd ee ne
    | cons l e =>
      rw [ee] at wf
      exact wf
end
end IC
namespace IC
open PySem L2 TL
theorem doomTop_own (w : Str) (e : En) : (doomTop w e).own = e.own := by
  cases e with
  | nil => rfl
  | cons l e =>
    show En.own ((match l.why with | some _ => l | none => ⟨some w, l.ws⟩) :: e) = _
    rw [own_cons, own_cons]
    cases l.why <;> rfl
theorem doomTop_starts (w : Str) (e : En) : (doomTop w e).starts = e.starts := by cases e <;> rfl
theorem doomTop_why (w : Str) {e : En} (n : e ≠ []) : (doomTop w e).why = some (e.why.getD w) := by
  cases e with
  | nil => exact absurd rfl n
  | cons l e =>
    show (match l.why with | some _ => l | none => (⟨some w, l.ws⟩ : Lv)).why = some (l.why.getD w)
    cases h : l.why with
    | none => rfl
    | some u => exact h
theorem doomTop_tail (w : Str) (e : En) : (doomTop w e).tail = e.tail := by cases e <;> rfl
theorem starts_merge (l l2 : Lv) (e : En) : En.starts (⟨l2.why, l2.ws ++ l.ws⟩ :: e) = En.starts (l2 :: e) := rfl
section
variable {c : Cs} {CW : Addr} {H G : Hp} {F F' : Addr → Prop} {S S' : SG}
/-- the present transaction's levels are others, its writes the same -/
theorem DbG.topRe {T T' : Tr} (h : DbG c CW H F S) (et : S.top = some T) (etop : S'.top = some T') (e1 : T'.t = T.t) (e2 : T'.q = T.q) (eo : T'.e.own = T.e.own) (es : S'.sus = S.sus) (ep : S'.p = S.p) (eh : S'.held = S.held) (sF : ∀ a, F a → F' a)
    (kp : ∀ b o, H b = some o → b ≠ S.d → b ≠ S.p.b → b ≠ T.t → b ≠ T.q.s → G b = some o) (tT' : TrG c CW G F' S.p T') (db : D3 c CW G F' S'.d S'.p (vT S'.top) S'.bl S'.made S'.held S'.kept) (bk : BkR G F' S'.bl.reverse (blkOf S'.sorts (vT S'.top :: S'.sus.map vT))) (wf : Wf S'.sorts (eT S'.top :: S'.sus.map eT)) : DbG c CW G F' S' := by
  have tsS : S.ts = T :: S.sus.filterMap id := by unfold SG.ts; rw [et]; rfl
  have ets : S'.ts = T' :: S.sus.filterMap id := by unfold SG.ts; rw [etop, es]; rfl
  have hT := SG.topMem et
  have tT := h.tr T hT
  have inS : ∀ U ∈ S.sus.filterMap id, U ∈ S.ts := fun U hU => by rw [tsS]; exact List.mem_cons_of_mem _ hU
  have ap := h.ap
  rw [tsS] at ap
  have apT := (List.pairwise_cons.mp ap).1
  have nk : ∀ {b : Addr} {o : HO}, H b = some o → kin o ≠ 1 → kin o ≠ 16 → b ≠ T.t → G b = some o := fun {b o} e n1 n2 n3 => kp b o e (ne_kin e h.db.hd (by simpa [kin] using n2)) (ne_kin e h.db.hb n1) n3 (ne_kin e tT.hs n1)
  have lk : ∀ {b : Addr} {xs : List V}, H b = some (.lst xs) → b ≠ S.p.b → b ≠ T.q.s → G b = some (.lst xs) := fun {b xs} e n1 n2 => kp b _ e (ne_kin e h.db.hd (by simp [kin])) n1 (ne_kin e tT.ht (by simp [kin])) n2
  refine ⟨db, fun U hU => ?_, fun U hU z hz n => ?_, fun U hU x hx => ?_, fun z hz => ?_, ?_, fun z hz => ?_, ?_, ?_, bk, wf, by rw [eh]; exact h.hn⟩
  · rw [ets] at hU
    rw [ep]
    rcases List.mem_cons.mp hU with rfl | hU
    · exact tT'
    · have tU := h.tr U (inS U hU)
      have aU := apT U hU
      exact ⟨tU.ne, nk tU.ht (by simp [kin]) (by simp [kin]) aU.1.symm, lk tU.ho tU.nob aU.2.2.2.1.symm, lk tU.hs tU.nsb aU.2.2.2.2.1.symm, fun x hx => by
        obtain ⟨dx, f, e⟩ := tU.hw x hx
        exact ⟨dx, f, nk e (by simp [kin]) (by simp [kin]) (ne_kin e tT.ht (by simp [kin]))⟩, tU.low, tU.nos, tU.nob, tU.nom, tU.nsb, tU.nsm, sF _ tU.ft, sF _ tU.fo, sF _ tU.fs, fun x hx => sF _ (tU.fw x hx)⟩
  · rw [ets] at hU
    rw [eh] at hz
    have g := h.nl z hz
    rcases List.mem_cons.mp hU with rfl | hU
    · rw [eo] at n ⊢
      exact lk (h.hl T hT z hz n) g.1 (g.2.2 T hT).2
    · exact lk (h.hl U (inS U hU) z hz n) g.1 (g.2.2 T hT).2
  · rw [ets] at hU
    rw [eh]
    rcases List.mem_cons.mp hU with rfl | hU
    · rw [eo] at hx
      exact h.all T hT x hx
    · exact h.all U (inS U hU) x hx
  · rw [eh] at hz
    obtain ⟨U, hU, n⟩ := h.owd z hz
    rw [tsS] at hU
    rcases List.mem_cons.mp hU with rfl | hU
    · exact ⟨T', by rw [ets]; exact List.mem_cons_self, by rw [eo]; exact n⟩
    · exact ⟨U, by rw [ets]; exact List.mem_cons_of_mem _ hU, n⟩
  · rw [eh]; exact h.one
  · rw [eh] at hz
    rw [ep]
    have g := h.nl z hz
    refine ⟨g.1, g.2.1, fun U hU => ?_⟩
    rw [ets] at hU
    rcases List.mem_cons.mp hU with rfl | hU
    · rw [e2]
      exact g.2.2 T hT
    · exact g.2.2 U (inS U hU)
  · rw [eh]; exact fun z hz => sF _ (h.fl z hz)
  · rw [ets]
    refine List.pairwise_cons.mpr ⟨fun U hU => ?_, (List.pairwise_cons.mp ap).2⟩
    have a := apT U hU
    refine ⟨by rw [e1]; exact a.1, by rw [e2]; exact a.2.1, by rw [e2]; exact a.2.2.1, by rw [e2]; exact a.2.2.2.1, by rw [e2]; exact a.2.2.2.2.1, fun x hx => ?_⟩
    rw [eo] at hx
    exact a.2.2.2.2.2 x hx
end
end IC
namespace IC
open PySem L2 TL
section
variable {c : Cs} {CW : Addr} {H G : Hp} {F F' : Addr → Prop} {S S' : SG}
/-- the present transaction has ended: it and what it held are gone, the others stand -/
theorem DbG.gone {T : Tr} (h : DbG c CW H F S) (et : S.top = some T) (ets : S'.ts = S.sus.filterMap id) (ep : S'.p = S.p) (sF : ∀ a, F a → F' a) (hmem : ∀ z, z ∈ S'.held ↔ z ∈ S.held ∧ ofR T.e.own z.1 = []) (hsub : S'.held.Sublist S.held)
    (kp : ∀ b o, H b = some o → b ≠ S.d → b ≠ S.p.b → b ≠ S.p.h → b ≠ S.p.k → b ≠ T.t → b ≠ T.q.s → b ≠ T.q.o → (∀ x ∈ T.e.own, b ≠ x.a) → (∀ z ∈ S.held, ofR T.e.own z.1 ≠ [] → b ≠ z.2) → G b = some o)
    (db : D3 c CW G F' S'.d S'.p (vT S'.top) S'.bl S'.made S'.held S'.kept) (bk : BkR G F' S'.bl.reverse (blkOf S'.sorts (vT S'.top :: S'.sus.map vT))) (wf : Wf S'.sorts (eT S'.top :: S'.sus.map eT)) : DbG c CW G F' S' := by
  have tsS : S.ts = T :: S.sus.filterMap id := by unfold SG.ts; rw [et]; rfl
  have hT := SG.topMem et
  have tT := h.tr T hT
  have inS : ∀ U ∈ S.sus.filterMap id, U ∈ S.ts := fun U hU => by rw [tsS]; exact List.mem_cons_of_mem _ hU
  have ap := h.ap
  rw [tsS] at ap
  have apT := (List.pairwise_cons.mp ap).1
  have wl : ∀ x ∈ T.e.own, ∃ dx f, H x.a = some (.ins CW dx (wrf x.r x.v (.ref T.t) (.str f))) := fun x hx => tT.hw x hx
  have nk : ∀ {b : Addr} {o : HO}, H b = some o → kin o ≠ 1 → kin o ≠ 3 → kin o ≠ 16 → b ≠ T.t → (∀ x ∈ T.e.own, b ≠ x.a) → G b = some o := fun {b o} e n1 n3 n16 nt nx =>
    kp b o e (ne_kin e h.db.hd (by simpa [kin] using n16)) (ne_kin e h.db.hb n1) (ne_kin e h.db.hh n3) (ne_kin e h.db.hk n3) nt (ne_kin e tT.hs n1) (ne_kin e tT.ho n1) nx fun z hz n => ne_kin e (h.hl T hT z hz n) n1
  have lk : ∀ {b : Addr} {xs : List V}, H b = some (.lst xs) → b ≠ S.p.b → b ≠ T.q.s → b ≠ T.q.o → (∀ z ∈ S.held, ofR T.e.own z.1 ≠ [] → b ≠ z.2) → G b = some (.lst xs) := fun {b xs} e n1 n2 n3 n4 =>
    kp b _ e (ne_kin e h.db.hd (by simp [kin])) n1 (ne_kin e h.db.hh (by simp [kin])) (ne_kin e h.db.hk (by simp [kin])) (ne_kin e tT.ht (by simp [kin])) n2 n3 (fun x hx => by
      obtain ⟨dx, f, q⟩ := wl x hx
      exact ne_kin e q (by simp [kin])) n4
  refine ⟨db, fun U hU => ?_, fun U hU z hz n => ?_, fun U hU x hx => ?_, fun z hz => ?_, fun z hz y hy e => h.one z ((hmem z).mp hz).1 y ((hmem y).mp hy).1 e, fun z hz => ?_, fun z hz => sF _ (h.fl z ((hmem z).mp hz).1), by rw [ets]; exact (List.pairwise_cons.mp ap).2, bk, wf, h.hn.sublist (hsub.map _)⟩
  · rw [ets] at hU
    rw [ep]
    have tU := h.tr U (inS U hU)
    have a := apT U hU
    exact ⟨tU.ne, nk tU.ht (by simp [kin]) (by simp [kin]) (by simp [kin]) a.1.symm fun x hx => by
        obtain ⟨dx, f, q⟩ := wl x hx
        exact ne_kin tU.ht q (by simp [kin]), lk tU.ho tU.nob a.2.2.2.1.symm a.2.1.symm fun z hz _ => ((h.nl z hz).2.2 U (inS U hU)).1.symm, lk tU.hs tU.nsb a.2.2.2.2.1.symm a.2.2.1.symm fun z hz _ => ((h.nl z hz).2.2 U (inS U hU)).2.symm,
      fun y hy => by
        obtain ⟨dy, f, q⟩ := tU.hw y hy
        exact ⟨dy, f, nk q (by simp [kin]) (by simp [kin]) (by simp [kin]) (ne_kin q tT.ht (by simp [kin])) fun x hx => (a.2.2.2.2.2 x hx y hy).2.symm⟩, tU.low, tU.nos, tU.nob, tU.nom, tU.nsb, tU.nsm, sF _ tU.ft, sF _ tU.fo, sF _ tU.fs, fun x hx => sF _ (tU.fw x hx)⟩
  · rw [ets] at hU
    have hz := (hmem z).mp hz
    have g := h.nl z hz.1
    refine lk (h.hl U (inS U hU) z hz.1 n) g.1 (g.2.2 T hT).2 (g.2.2 T hT).1 fun z2 hz2 n2 e => ?_
    have zz := h.one z hz.1 z2 hz2 (.inr e)
    rw [← zz] at n2
    exact n2 hz.2
  · rw [ets] at hU
    obtain ⟨z, hz, e⟩ := h.all U (inS U hU) x hx
    refine ⟨z, (hmem z).mpr ⟨hz, List.filter_eq_nil_iff.mpr fun y hy q => ?_⟩, e⟩
    exact ((apT U hU).2.2.2.2.2 y hy x hx).1 ((of_decide_eq_true q).trans e)
  · have hz := (hmem z).mp hz
    obtain ⟨U, hU, n⟩ := h.owd z hz.1
    rw [tsS] at hU
    rcases List.mem_cons.mp hU with rfl | hU
    · exact absurd hz.2 n
    · exact ⟨U, by rw [ets]; exact hU, n⟩
  · have hz := (hmem z).mp hz
    rw [ep]
    have g := h.nl z hz.1
    exact ⟨g.1, g.2.1, fun U hU => g.2.2 U (inS U (by rw [← ets]; exact hU))⟩
end
end IC
namespace IC
open PySem L2 TL
section
variable {c : Cs} {CW : Addr} {H G : Hp} {F F' : Addr → Prop} {S S' : SG}
/-- the top level's writes m are undone, those below, l, stand -/
theorem DbG.cut {T T' : Tr} {l m : List Wr} (h : DbG c CW H F S) (et : S.top = some T) (eo : T.e.own = l ++ m) (etop : S'.top = some T') (e1 : T'.t = T.t) (e2 : T'.q = T.q) (eo' : T'.e.own = l) (es : S'.sus = S.sus) (ep : S'.p = S.p) (eh : S'.held = heldCut S.held (l ++ m) l) (sF : ∀ a, F a → F' a)
    (kp : ∀ b o, H b = some o → b ≠ S.d → b ≠ S.p.b → b ≠ S.p.h → b ≠ T.t → b ≠ T.q.s → b ≠ T.q.o → (∀ x ∈ m, b ≠ x.a) → (∀ z ∈ S.held, ofR m z.1 ≠ [] → b ≠ z.2) → G b = some o) (tT' : TrG c CW G F' S.p T') (ht : HT G F' S.p T.q.o S'.held l)
    (db : D3 c CW G F' S'.d S'.p (vT S'.top) S'.bl S'.made S'.held S'.kept) (bk : BkR G F' S'.bl.reverse (blkOf S'.sorts (vT S'.top :: S'.sus.map vT))) (wf : Wf S'.sorts (eT S'.top :: S'.sus.map eT)) : DbG c CW G F' S' := by
  have tsS : S.ts = T :: S.sus.filterMap id := by unfold SG.ts; rw [et]; rfl
  have ets : S'.ts = T' :: S.sus.filterMap id := by unfold SG.ts; rw [etop, es]; rfl
  have hT := SG.topMem et
  have tT := h.tr T hT
  have inS : ∀ U ∈ S.sus.filterMap id, U ∈ S.ts := fun U hU => by rw [tsS]; exact List.mem_cons_of_mem _ hU
  have ap := h.ap
  rw [tsS] at ap
  have apT := (List.pairwise_cons.mp ap).1
  have mem : ∀ z, z ∈ S'.held ↔ z ∈ S.held ∧ (ofR l z.1 ≠ [] ∨ ofR (l ++ m) z.1 = []) := fun z => by rw [eh]; exact mem_cut
  have excl : ∀ U ∈ S.sus.filterMap id, ∀ r, ofR U.e.own r ≠ [] → ofR (l ++ m) r = [] := fun U hU r n => by
    cases q : ofR (l ++ m) r with
    | nil => rfl
    | cons a b =>
      have e := h.by hT (inS U hU) (r := r) (by rw [eo, q]; simp) n
      exact absurd (congrArg Tr.t e) (apT U hU).1
  have exm : ∀ r, ofR (l ++ m) r = [] → ofR m r = [] := fun r q => by
    rw [ofR_app] at q
    exact (List.append_eq_nil_iff.mp q).2
  have wl : ∀ x ∈ m, ∃ dx f, H x.a = some (.ins CW dx (wrf x.r x.v (.ref T.t) (.str f))) := fun x hx => tT.hw x (by rw [eo]; exact List.mem_append_right _ hx)
  have zl : ∀ z ∈ S.held, ofR m z.1 ≠ [] → ∃ xs, H z.2 = some (.lst xs) := fun z hz n => ⟨_, h.hl T hT z hz fun q => n (exm _ (by rw [← eo]; exact q))⟩
  have nk : ∀ {b : Addr} {o : HO}, H b = some o → kin o ≠ 1 → kin o ≠ 3 → kin o ≠ 16 → b ≠ T.t → (∀ x ∈ m, b ≠ x.a) → G b = some o := fun {b o} e n1 n3 n16 nt nx =>
    kp b o e (ne_kin e h.db.hd (by simpa [kin] using n16)) (ne_kin e h.db.hb n1) (ne_kin e h.db.hh n3) nt (ne_kin e tT.hs n1) (ne_kin e tT.ho n1) nx fun z hz n => by
      obtain ⟨xs, q⟩ := zl z hz n
      exact ne_kin e q n1
  have lk : ∀ {b : Addr} {xs : List V}, H b = some (.lst xs) → b ≠ S.p.b → b ≠ T.q.s → b ≠ T.q.o → (∀ z ∈ S.held, ofR m z.1 ≠ [] → b ≠ z.2) → G b = some (.lst xs) := fun {b xs} e n1 n2 n3 n4 =>
    kp b _ e (ne_kin e h.db.hd (by simp [kin])) n1 (ne_kin e h.db.hh (by simp [kin])) (ne_kin e tT.ht (by simp [kin])) n2 n3 (fun x hx => by
      obtain ⟨dx, f, q⟩ := wl x hx
      exact ne_kin e q (by simp [kin])) n4
  refine ⟨db, fun U hU => ?_, fun U hU z hz n => ?_, fun U hU x hx => ?_, fun z hz => ?_, ht.one, fun z hz => ?_, ht.fl, ?_, bk, wf, by rw [eh]; exact h.hn.sublist (List.filter_sublist.map _)⟩
  · rw [ets] at hU
    rw [ep]
    rcases List.mem_cons.mp hU with rfl | hU
    · exact tT'
    · have tU := h.tr U (inS U hU)
      have a := apT U hU
      exact ⟨tU.ne, nk tU.ht (by simp [kin]) (by simp [kin]) (by simp [kin]) a.1.symm fun x hx => by
          obtain ⟨dx, f, q⟩ := wl x hx
          exact ne_kin tU.ht q (by simp [kin]), lk tU.ho tU.nob a.2.2.2.1.symm a.2.1.symm fun z hz _ => ((h.nl z hz).2.2 U (inS U hU)).1.symm, lk tU.hs tU.nsb a.2.2.2.2.1.symm a.2.2.1.symm fun z hz _ => ((h.nl z hz).2.2 U (inS U hU)).2.symm,
        fun y hy => by
          obtain ⟨dy, f, q⟩ := tU.hw y hy
          exact ⟨dy, f, nk q (by simp [kin]) (by simp [kin]) (by simp [kin]) (ne_kin q tT.ht (by simp [kin])) fun x hx => (a.2.2.2.2.2 x (by rw [eo]; exact List.mem_append_right _ hx) y hy).2.symm⟩, tU.low, tU.nos, tU.nob, tU.nom, tU.nsb, tU.nsm, sF _ tU.ft, sF _ tU.fo, sF _ tU.fs, fun x hx => sF _ (tU.fw x hx)⟩
  · rw [ets] at hU
    rcases List.mem_cons.mp hU with rfl | hU
    · rw [eo'] at n ⊢
      exact ht.hl z hz n
    · have hz := (mem z).mp hz
      have g := h.nl z hz.1
      refine lk (h.hl U (inS U hU) z hz.1 n) g.1 (g.2.2 T hT).2 (g.2.2 T hT).1 fun z2 hz2 n2 e => ?_
      have zz := h.one z hz.1 z2 hz2 (.inr e)
      rw [← zz] at n2
      exact n2 (exm _ (excl U hU _ n))
  · rw [ets] at hU
    rcases List.mem_cons.mp hU with rfl | hU
    · rw [eo'] at hx
      exact ht.all x hx
    · obtain ⟨z, hz, e⟩ := h.all U (inS U hU) x hx
      refine ⟨z, (mem z).mpr ⟨hz, .inr (excl U hU _ fun q => ?_)⟩, e⟩
      exact List.filter_eq_nil_iff.mp q x hx (decide_eq_true e.symm)
  · have hz := (mem z).mp hz
    rcases hz.2 with q | q
    · exact ⟨T', by rw [ets]; exact List.mem_cons_self, by rw [eo']; exact q⟩
    · obtain ⟨U, hU, n⟩ := h.owd z hz.1
      rw [tsS] at hU
      rcases List.mem_cons.mp hU with rfl | hU
      · rw [eo] at n
        exact absurd q n
      · exact ⟨U, by rw [ets]; exact List.mem_cons_of_mem _ hU, n⟩
  · have hz := (mem z).mp hz
    rw [ep]
    have g := h.nl z hz.1
    refine ⟨g.1, g.2.1, fun U hU => ?_⟩
    rw [ets] at hU
    rcases List.mem_cons.mp hU with rfl | hU
    · rw [e2]
      exact g.2.2 T hT
    · exact g.2.2 U (inS U hU)
  · rw [ets]
    refine List.pairwise_cons.mpr ⟨fun U hU => ?_, (List.pairwise_cons.mp ap).2⟩
    have a := apT U hU
    refine ⟨by rw [e1]; exact a.1, by rw [e2]; exact a.2.1, by rw [e2]; exact a.2.2.1, by rw [e2]; exact a.2.2.2.1, by rw [e2]; exact a.2.2.2.2.1, fun x hx => ?_⟩
    rw [eo'] at hx
    exact a.2.2.2.2.2 x (by rw [eo]; exact List.mem_append_left _ hx)
end
end IC
namespace IC
open PySem L2 TL
def dmT (T : Tr) : Option Str → Tr
  | none => T
  | some w => ⟨T.t, T.q, doomTop w T.e⟩
/-- what leaving a block does: r is the word of the error that it is, ks are the writes that are kept, us those that are undone -/
def LvR (S S' : SG) (err : Option Str) (goes : Bool) (r : Str) (ks us : List Wr) : Prop :=
  match S.sorts with
  | [] => False
  | .plain :: s => S'.sorts = s ∧ S.top = none ∧ S'.top = none ∧ S'.sus = S.sus ∧ r = "" ∧ ks = [] ∧ us = []
  | .outside :: s => S'.sorts = s ∧ S.top = none ∧ (∃ T, S.sus = some T :: S'.sus ∧ S'.top = some T) ∧ r = "" ∧ ks = [] ∧ us = []
  | .joined :: s => S'.sorts = s ∧ S'.sus = S.sus ∧ (∃ T, S.top = some T ∧ S'.top = some (dmT T err)) ∧ r = "" ∧ ks = [] ∧ us = []
  | .level :: s => ∃ T l l2 e, S.top = some T ∧ T.e = l :: l2 :: e ∧ S'.sorts = s ∧ S'.sus = S.sus ∧
      (((err.isSome || l.why.isSome) = true ∧ S'.top = some ⟨T.t, T.q, l2 :: e⟩ ∧ ks = [] ∧ us = l.ws ∧ r = (if err.isSome = true then "" else "doomed")) ∨
       (err = none ∧ l.why = none ∧ S'.top = some ⟨T.t, T.q, ⟨l2.why, l2.ws ++ l.ws⟩ :: e⟩ ∧ ks = [] ∧ us = [] ∧ r = ""))
  | .base :: s => ∃ T l o, S.top = some T ∧ T.e = [l] ∧ S.sus = o :: S'.sus ∧ S'.top = o ∧ S'.sorts = s ∧
      (((err.isSome || l.why.isSome) = true ∧ ks = [] ∧ us = l.ws ∧ r = (if err.isSome = true then "" else "doomed")) ∨
       (err = none ∧ l.why = none ∧ goes = true ∧ ks = l.ws ∧ us = [] ∧ r = "") ∨ (err = none ∧ l.why = none ∧ goes = false ∧ ks = [] ∧ us = l.ws ∧ r = "refused"))
structure LvE (S S' : SG) (ks : List Wr) : Prop where
  d : S'.d = S.d
  p : S'.p = S.p
  made : S'.made = S.made
  bl : S'.bl.length + 1 = S.bl.length
  kept : S'.kept = ks.foldl putW S.kept
  held : S'.held.length ≤ S.held.length
def FtR (CW : Addr) (H H' : Hp) (F : Addr → Prop) (made : List V) (ks us : List Wr) : Prop := ∀ W, Fts CW H F made W → Fts CW H' F made (fateOf us "undone" (fateOf ks "kept" W))
def spEndBG (c : Cs) (CW : Addr) : Sp := fun vs H Q _ => ∃ (S : SG) (F : Addr → Prop) (err : Option Str) (goes : Bool), vs = [.ref S.d, oV err, .bl goes] ∧ DbG c CW H F S ∧ SzG S 900 ∧ S.sorts ≠ [] ∧
  ∀ (H' : Hp) (S' : SG) (r : Str) (ks us : List Wr), Fr F F H H' → DbG c CW H' F S' → LvE S S' ks → LvR S S' err goes r ks us → FtR CW H H' F S.made ks us → Q (.str r) H'
theorem wf_top {s : List So} {l2 : Lv} : ∀ {l : Lv} {e : En} {r : List En}, Wf s ((l :: e) :: r) → Wf s ((l2 :: e) :: r) := by
  induction s with
  | nil =>
    intro l e r h
    have h : ((l :: e) :: r) = [[]] := h
    cases h
  | cons o s ih =>
    intro l e r h
    cases o with
    | plain => exact h.elim
    | joined => exact ih h
    | level =>
      cases e with
      | nil => exact h.elim
      | cons l3 e => exact h
    | base =>
      cases e with
      | nil => exact h
      | cons l3 e => exact h.elim
    | outside => exact h.elim
theorem wf_doom {s : List So} {w : Str} {e : En} {r : List En} (h : Wf s (e :: r)) : Wf s (doomTop w e :: r) := by
  cases e with
  | nil => exact h
  | cons l e => exact wf_top h
theorem len_cut (held : List (Str × Addr)) (a b : List Wr) : (heldCut held a b).length ≤ held.length := List.length_filter_le ..
theorem len_rest (held : List (Str × Addr)) (a : List Wr) : (rest held a).length ≤ held.length := List.length_filter_le ..
theorem mem_rest {held : List (Str × Addr)} {l : List Wr} {z : Str × Addr} : z ∈ rest held l ↔ z ∈ held ∧ ofR l z.1 = [] := by
  unfold rest ofR
  rw [List.mem_filter, List.filter_eq_nil_iff]
  refine and_congr_right fun _ => ?_
  rw [Bool.not_eq_true', List.any_eq_false]
section
variable {P : Program} {w : World} {K : PySem.W.Frag} {mg : Str → Option Value} {base : Heap} {c : Cs} {CW : Addr}
theorem DbG.none_top {H : Hp} {F : Addr → Prop} {S : SG} (h : DbG c CW H F S) (e : eT S.top = []) : S.top = none := by
  cases et : S.top with
  | none => rfl
  | some T =>
    rw [et] at e
    exact absurd e (h.tr T (SG.topMem et)).ne
theorem some_top {o : Option Tr} {e : En} (h : eT o = e) (n : e ≠ []) : ∃ T, o = some T ∧ T.e = e := by
  cases o with
  | none => exact absurd h.symm n
  | some T => exact ⟨T, rfl, h⟩
theorem ok_end_blockG {f : Addr} {fd : FuncData} (F : Fun K "_end_block" "Database._end_block" s_Database__end_block f fd) (B : DbTxt K mg c) (M_tdoom : MDf P w K mg base CX0 1 c.T "doom" ["self", "first"] [] (spTrDoomG c))
    (M_end_level : MDf P w K mg base CX0 2 c.D "_end_level" ["self", "transaction", "error", "commits"] [] (spEndLG c CW)) : FnOk P w K mg base CX0 3 f fd ["self", "error", "commits"] (spEndBG c CW) := by
  refine F.ok sc_Database__end_block (fun vs H Q E h => ?_) (fun cdv A outer s H vs Q E hr h => ?_)
  · obtain ⟨S, F, err, goes, rfl, _⟩ := h
    rfl
  · obtain ⟨S, F, err, goes, rfl, hd, sz, ns, k⟩ := h
    refine ⟨_, (pss_cons (ps_asg (pe_bm0 PySem.F.plainAttrs_list PySem.F.slot_list_pop PySem.F.type_list_pop mt_pop (pe_fld (pv 0) rfl)) (pg_tup rfl (pgs_cons (pg_name (i := 3) sc_Database__end_block.nd rfl (Or.inl rfl)) (pgs_cons (pg_name (i := 4) sc_Database__end_block.nd rfl (Or.inl rfl)) pgs_nil))))
  (pss_cons (ps_set (i := 5) sc_Database__end_block.nd rfl (Or.inl rfl) (pe_fld (pv 0) rfl))
  (pss_cons (ps_fld (pv 0) (pv 4) rfl)
  (pss_cons (ps_if (pt_cmpR op_eq (pv 3) (pe_gv B.gE rfl) (nomark _))
  (pss_one (ps_ret (pe_md M_end_level B.cD hr (by decide) (pv 0) (pa_cons (pv 5) (pa_cons (pv 1) (pa_cons (pv 2) pa_nil))))))
  pss_nil)
  (pss_cons (ps_if (PW.pt (pw_and (pt_cmpR op_eq (pv 3) (pe_gv B.gD rfl) (nomark _)) (pw_and1 (pt_cmpR op_notN (pv 1) pe_non (nomark _)))))
  (pss_one (ps_expr (pe_md M_tdoom B.cT hr (by decide) (pv 5) (pa_cons (pv 1) pa_nil))))
  pss_nil)
  (pss_one (ps_ret pe_str))))))), ?_⟩
    have hdb := hd.db
    have bk := hd.bk
    have wf := hd.wf
    cases hbk : blkOf S.sorts (vT S.top :: S.sus.map vT) with
    | nil =>
      cases es : S.sorts with
      | nil => exact absurd es ns
      | cons o s =>
        rw [es] at hbk
        cases o <;> cases hbk
    | cons z m =>
    rw [hbk] at bk
    rcases List.eq_nil_or_concat S.bl with eb | ⟨bl, y, eb⟩
    · rw [eb] at bk
      exact bk.elim
    rw [List.concat_eq_append] at eb
    rw [eb, List.reverse_append] at bk
    obtain ⟨⟨hy, fy⟩, bk'⟩ := bk
    have hb := hdb.hb
    rw [eb, List.map_append] at hb
    refine ⟨_, rfl, S.d, c.D, S.p.dx, _, _, rfl, hdb.hd, B.cD, B.nB, rfl, .inl ⟨rfl, _, SqL.of hb⟩, S.p.b, _, .ref y, rfl, rfl, hb, ?_, ?_⟩
    · rw [List.length_append, List.map_cons, List.map_nil, List.length_singleton, Nat.add_sub_cancel, List.getElem?_append_right (Nat.le_refl _), Nat.sub_self]
      rfl
    rw [List.map_cons, List.map_nil, List.dropLast_concat]
    refine ⟨y, _, rfl, SqT.of (by rw [upd_ne (ne_kin hy hdb.hb (by simp [kin]))]; exact hy), rfl, _, _, rfl, _, _, rfl, rfl, ?_⟩
    have d1 := hdb.setBl bl
    refine ⟨_, rfl, S.d, c.D, S.p.dx, _, _, rfl, d1.hd, B.cD, B.nP, rfl, ?_⟩
    refine ⟨_, rfl, _, rfl, S.d, c.D, S.p.dx, _, rfl, d1.hd, B.cD, B.nP, (by show 6 < 1000; decide), ?_⟩
    obtain ⟨H1, eH⟩ : ∃ H1, upd (upd H S.p.b (.lst (bl.map V.ref))) S.d (.ins c.D S.p.dx (putF "_present" z.2 (dbf (vT S.top) S.p.fl S.p.b S.p.m S.p.h S.p.k))) = H1 := ⟨_, rfl⟩
    rw [eH]
    have d2 : D3 c CW H1 F S.d S.p z.2 bl S.made S.held S.kept := by rw [← eH]; exact d1.setPv z.2
    have kp1 : ∀ b o, H b = some o → b ≠ S.d → b ≠ S.p.b → H1 b = some o := fun b o e n1 n2 => by
      rw [← eH, upd_ne n1, upd_ne n2]
      exact e
    have fr1 : Fr F F H H1 := by rw [← eH]; exact (Fr.at_ hdb.fb).trans (Fr.at_ hdb.fd)
    clear eH
    have lb : bl.length + 1 = S.bl.length := by rw [eb, List.length_append]; rfl
    refine ⟨_, rfl, rfl, _, rfl, ?_⟩
    have ft0 : ∀ {G : Hp}, (∀ b o, H b = some o → kin o = 14 → G b = some o) → FtR CW H G F S.made [] [] := fun kq W hW => by
      rw [fateOf_nil, fateOf_nil]
      exact hW.st kq fun _ z => z
    have st1 : Wst H H1 := fun b o e kq => kp1 b o e (ne14 e kq hdb.hd) (ne14 e kq hdb.hb)
    cases es : S.sorts with
    | nil => exact absurd es ns
    | cons o s =>
    rw [es] at hbk wf
    have k' := k
    unfold LvR at k'
    rw [es] at k'
    cases o with
    | plain =>
      injection hbk with e1 e2
      subst e1
      have tn : S.top = none := by
        cases et : S.top with
        | none => rfl
        | some T =>
          rw [et] at wf
          have wf : Wf (.plain :: s) (T.e :: _) := wf
          cases ee : T.e with
          | nil => exact absurd ee (hd.tr T (SG.topMem et)).ne
          | cons l r =>
            rw [ee] at wf
            exact wf.elim
      refine iteF ⟨_, rfl, rfl, _, rfl, iteF (iteF ?_)⟩
      exact k' H1 { S with bl := bl, sorts := s } "" [] [] fr1 (hd.leavePlain es eb kp1 (by rw [tn]; exact d2)) ⟨rfl, rfl, rfl, lb, rfl, Nat.le_refl _⟩ ⟨rfl, tn, tn, rfl, rfl, rfl, rfl⟩ (ft0 st1)
    | outside =>
      injection hbk with e1 e2
      subst e1
      have tn : eT S.top = [] ∧ ∃ T r, S.sus = some T :: r := by
        cases q : eT S.top with
        | cons l e => rw [q] at wf; exact wf.elim
        | nil =>
          rw [q] at wf
          cases q2 : S.sus with
          | nil => rw [q2] at wf; exact wf.elim
          | cons u r =>
            rw [q2] at wf
            cases u with
            | none => exact wf.elim
            | some T => exact ⟨rfl, T, r, rfl⟩
      obtain ⟨tn, T, r, eu⟩ := tn
      have tn := hd.none_top tn
      rw [eu] at d2
      refine iteF ⟨_, rfl, rfl, _, rfl, iteF (iteF ?_)⟩
      exact k' H1 { S with bl := bl, sorts := s, top := some T, sus := r } "" [] [] fr1 (hd.leaveOutside tn es eb eu kp1 d2) ⟨rfl, rfl, rfl, lb, rfl, Nat.le_refl _⟩ ⟨rfl, tn, ⟨T, eu, rfl⟩, rfl, rfl, rfl⟩ (ft0 st1)
    | joined =>
      injection hbk with e1 e2
      subst e1
      have hne : ∃ T, S.top = some T := by
        cases et : S.top with
        | some T => exact ⟨T, rfl⟩
        | none => rw [et] at wf; exact wf.elim
      obtain ⟨T, et⟩ := hne
      have hT := SG.topMem et
      have tT := hd.tr T hT
      have t1 := tT.far hdb (fun _ z => z) kp1
      rw [et] at d2 wf e2 ⊢
      have wf' : Wf s (T.e :: S.sus.map eT) := by
        cases ee : T.e with
        | nil => exact absurd ee tT.ne
        | cons l e =>
          have wf : Wf (.joined :: s) (T.e :: S.sus.map eT) := wf
          rw [ee] at wf
          exact wf
      have bk2 : BkR H F bl.reverse (blkOf s (.ref T.t :: S.sus.map vT)) := by
        have e2 : blkOf s (.ref T.t :: S.sus.map vT) = m := e2
        rw [e2]
        exact bk'
      refine iteF ⟨_, rfl, rfl, _, rfl, iteT ?_⟩
      cases err with
      | none =>
        refine ⟨_, rfl, rfl, _, rfl, iteF ?_⟩
        refine k' H1 { S with bl := bl, sorts := s } "" [] [] fr1 (hd.re rfl rfl rfl (fun _ z => z) kp1 (by rw [et]; exact d2) ?_ (by rw [et]; exact wf')) ⟨rfl, rfl, rfl, lb, rfl, Nat.le_refl _⟩ ⟨rfl, rfl, ⟨T, et, et⟩, rfl, rfl, rfl⟩ (ft0 st1)
        rw [et]
        exact bk2.mv (fun x xs _ e => kp1 _ _ e (ne_kin e hdb.hd (by simp [kin])) (ne_kin e hdb.hb (by simp [kin]))) fun _ z => z
      | some w =>
        refine ⟨_, rfl, rfl, _, rfl, iteT ?_⟩
        refine ⟨_, rfl, T.t, T.q.dx, _, rfl, t1.ht, rfl, _, rfl, T.t, T.q, T.e.why, w, rfl, t1.ht, fun H2 kp2 e2' => ?_⟩
        have kp2' : ∀ b o, H1 b = some o → b ≠ T.t → H2 b = some o := fun b o e n => kp2 b o e (by simpa using n)
        have d3 : D3 c CW H2 F S.d S.p (.ref T.t) bl S.made S.held S.kept := by
          have go : ∀ {b : Addr} {o : HO}, H1 b = some o → kin o ≠ 13 → H2 b = some o := fun {b o} q n => kp2' _ _ q (ne_kin q t1.ht (by simpa [kin] using n))
          exact ⟨go d2.hd (by simp [kin]), go d2.hb (by simp [kin]), go d2.hm (by simp [kin]), go d2.hh (by simp [kin]), go d2.hk (by simp [kin]), fun x hx => let ⟨v, dx, f, q⟩ := d2.hw x hx; ⟨v, dx, f, go q (by simp [kin])⟩, d2.nbm, d2.nhk, d2.fd, d2.fb, d2.fm, d2.fh, d2.fk, d2.fw⟩
        have kpA : ∀ b o, H b = some o → b ≠ S.d → b ≠ S.p.b → b ≠ T.t → H2 b = some o := fun b o e n1 n2 n3 => kp2' b o (kp1 b o e n1 n2) n3
        have fr2 : Fr F F H1 H2 := ⟨fun x o e n => kp2' x o e fun q => n (by rw [q]; exact tT.ft), fun _ z => z, fun _ z => .inl z⟩
        have t2 : TrG c CW H2 F S.p ⟨T.t, T.q, doomTop w T.e⟩ := by
          refine ⟨?_, ?_, ?_, ?_, fun x hx => ?_, ?_, tT.nos, tT.nob, tT.nom, tT.nsb, tT.nsm, tT.ft, tT.fo, tT.fs, fun x hx => ?_⟩
          · show doomTop w T.e ≠ []
            cases ee : T.e with
            | nil => exact absurd ee tT.ne
            | cons l e => intro q; cases q
          · show H2 T.t = some (.ins c.T T.q.dx (trf T.q.o T.q.s (oV (En.why (doomTop w T.e)))))
            rw [doomTop_why w tT.ne]
            exact e2'
          · show H2 T.q.o = some (.lst (refs (En.own (doomTop w T.e))))
            rw [doomTop_own]
            exact kp2' _ _ t1.ho (ne_kin t1.ho t1.ht (by simp [kin]))
          · show H2 T.q.s = some (.lst ((En.starts (doomTop w T.e)).map fun n : Nat => V.int (n : Int)))
            rw [doomTop_starts]
            exact kp2' _ _ t1.hs (ne_kin t1.hs t1.ht (by simp [kin]))
          · have hx : x ∈ En.own (doomTop w T.e) := hx
            rw [doomTop_own] at hx
            obtain ⟨dx, f, q⟩ := t1.hw x hx
            exact ⟨dx, f, kp2' _ _ q (ne_kin q t1.ht (by simp [kin]))⟩
          · show ∀ l ∈ (doomTop w T.e).tail, l.why = none
            rw [doomTop_tail]
            exact tT.low
          · have hx : x ∈ En.own (doomTop w T.e) := hx
            rw [doomTop_own] at hx
            exact tT.fw x hx
        refine k' H2 { S with bl := bl, sorts := s, top := some ⟨T.t, T.q, doomTop w T.e⟩ } "" [] [] (fr1.trans fr2) (hd.topRe (T' := ⟨T.t, T.q, doomTop w T.e⟩) et rfl rfl rfl (doomTop_own w T.e) rfl rfl rfl (fun _ z => z) (fun b o e n1 n2 n3 _ => kpA b o e n1 n2 n3) t2 d3 ?_ ?_) ⟨rfl, rfl, rfl, lb, rfl, Nat.le_refl _⟩ ⟨rfl, rfl, ⟨T, et, rfl⟩, rfl, rfl, rfl⟩ (ft0 fun b o e kq => kpA b o e (ne14 e kq hdb.hd) (ne14 e kq hdb.hb) (ne14 e kq tT.ht))
        · exact bk2.mv (fun x xs _ e => kpA _ _ e (ne_kin e hdb.hd (by simp [kin])) (ne_kin e hdb.hb (by simp [kin])) (ne_kin e tT.ht (by simp [kin]))) fun _ z => z
        · show Wf s (doomTop w T.e :: S.sus.map eT)
          exact wf_doom wf'
    | level =>
      injection hbk with e1 e2
      subst e1
      obtain ⟨T, l, l2, e, et, eTe, wf'⟩ : ∃ T l l2 e, S.top = some T ∧ T.e = l :: l2 :: e ∧ Wf s ((l2 :: e) :: S.sus.map eT) := by
        cases q : eT S.top with
        | nil => rw [q] at wf; exact wf.elim
        | cons l e0 =>
          rw [q] at wf
          cases e0 with
          | nil => exact wf.elim
          | cons l2 e =>
            obtain ⟨T, et, eTe⟩ := some_top q (by simp)
            exact ⟨T, l, l2, e, et, eTe, wf⟩
      have hT := SG.topMem et
      have tT := hd.tr T hT
      have t1 := tT.far hdb (fun _ z => z) kp1
      rw [et] at d2 e2 ⊢
      have bk2 : BkR H F bl.reverse (blkOf s (.ref T.t :: S.sus.map vT)) := by
        have e2 : blkOf s (.ref T.t :: S.sus.map vT) = m := e2
        rw [e2]
        exact bk'
      have ht1 : HT H1 F S.p T.q.o S.held T.e.own := ⟨hd.all T hT, fun z hz n => kp1 _ _ (hd.hl T hT z hz n) (ne_kin (hd.hl T hT z hz n) hdb.hd (by simp [kin])) (hd.nl z hz).1, hd.one, fun z hz => ⟨((hd.nl z hz).2.2 T hT).1, (hd.nl z hz).1, (hd.nl z hz).2.1⟩, hd.fl⟩
      have zT := sz.2.2.2.2 T hT
      have zk := sz.2.2.2.1
      have ow : T.e.own = En.own (l2 :: e) ++ l.ws := by rw [eTe, own_cons]
      have l2w : l2.why = none := tT.low l2 (by rw [eTe]; exact List.mem_cons_self)
      have nzo : ∀ z ∈ S.held, ofR l.ws z.1 ≠ [] → ofR T.e.own z.1 ≠ [] := fun z hz n q => by
        rw [ow, ofR_app] at q
        exact n (List.append_eq_nil_iff.mp q).2
      refine iteT ⟨_, rfl, S.d, S.p.dx, _, rfl, d2.hd, rfl, _, rfl, _, rfl, _, rfl, S.d, S.p, _, bl, S.made, S.held, S.kept, F, T, l, l2 :: e, err, goes, rfl, d2, t1, eTe, ht1, (fun z hz => ((hd.nl z hz).2.2 T hT).2), zT.1, zk, zT.2, fun H2 fr2 d3 nn s2 t2 => ?_⟩
      have undo : ∀ r : Str, (err.isSome || l.why.isSome) = true → r = (if err.isSome = true then "" else "doomed") → ∀ H', UInv c CW H2 H' F S.d T.t S.p (.ref T.t) bl S.made S.held S.kept (En.own (l2 :: e)) l.ws [] l.ws T.q.o → Q (.str r) H' := by
        intro r c1 er H' U
        have kpA : ∀ b o, H b = some o → b ≠ S.d → b ≠ S.p.b → b ≠ S.p.h → b ≠ T.t → b ≠ T.q.s → b ≠ T.q.o → (∀ x ∈ l.ws, b ≠ x.a) → (∀ z ∈ S.held, ofR l.ws z.1 ≠ [] → b ≠ z.2) → H' b = some o := fun b o e n1 n2 n3 n4 n5 n6 n7 n8 => U.out b o (nn b o (kp1 b o e n1 n2) n5 n4) n6 n3 n7 n8
        have wl : ∀ x ∈ l.ws, WAt CW H (.ref T.t) x := fun x hx => tT.hw x (by rw [ow]; exact List.mem_append_right _ hx)
        have ht' := U.ht
        have ho' := U.ho
        have db' := U.db
        rw [List.append_nil] at ht' ho' db'
        have tn : TrG c CW H' F S.p ⟨T.t, T.q, l2 :: e⟩ := by
          refine ⟨by simp, ?_, ho', ?_, fun x hx => U.hw x (List.mem_append_left _ hx), fun l0 h0 => tT.low l0 (by rw [eTe]; exact List.mem_cons_of_mem _ h0), tT.nos, tT.nob, tT.nom, tT.nsb, tT.nsm, tT.ft, tT.fo, tT.fs, fun x hx => tT.fw x (by rw [ow]; exact List.mem_append_left _ hx)⟩
          · show H' T.t = some (.ins c.T T.q.dx (trf T.q.o T.q.s (oV l2.why)))
            rw [l2w]
            refine U.out _ _ t2 (ne_kin tT.ht tT.ho (by simp [kin])) (ne_kin tT.ht hdb.hh (by simp [kin])) (fun x hx => ?_) fun z hz n => ne_kin tT.ht (hd.hl T hT z hz (nzo z hz n)) (by simp [kin])
            obtain ⟨dx, f, q⟩ := wl x hx
            exact ne_kin tT.ht q (by simp [kin])
          · refine U.out _ _ s2 tT.nos.symm (ne_kin tT.hs hdb.hh (by simp [kin])) (fun x hx => ?_) fun z hz n => ((hd.nl z hz).2.2 T hT).2.symm
            obtain ⟨dx, f, q⟩ := wl x hx
            exact ne_kin tT.hs q (by simp [kin])
        refine k' H' { S with bl := bl, sorts := s, top := some ⟨T.t, T.q, l2 :: e⟩, held := heldCut S.held (En.own (l2 :: e) ++ l.ws) (En.own (l2 :: e)) } r [] l.ws (fr1.trans (fr2.trans U.fr))
          (hd.cut (T' := ⟨T.t, T.q, l2 :: e⟩) et ow rfl rfl rfl rfl rfl rfl rfl (fun _ z => z) kpA tn ht' db' ?_ wf') ⟨rfl, rfl, rfl, lb, rfl, len_cut ..⟩ ⟨T, l, l2, e, et, eTe, rfl, rfl, .inl ⟨c1, rfl, rfl, rfl, er⟩⟩ fun W hW => ?_
        · refine bk2.mv (fun x xs _ e => kpA _ _ e (ne_kin e hdb.hd (by simp [kin])) (ne_kin e hdb.hb (by simp [kin])) (ne_kin e hdb.hh (by simp [kin])) (ne_kin e tT.ht (by simp [kin])) (ne_kin e tT.hs (by simp [kin])) (ne_kin e tT.ho (by simp [kin])) (fun y hy => ?_) fun z hz n => ne_kin e (hd.hl T hT z hz (nzo z hz n)) (by simp [kin])) fun _ z => z
          obtain ⟨dx, f, q⟩ := wl y hy
          exact ne_kin e q (by simp [kin])
        · rw [fateOf_nil]
          refine hW.fate (fun b o e kq n => kpA b o e (ne14 e kq hdb.hd) (ne14 e kq hdb.hb) (ne14 e kq hdb.hh) (ne14 e kq tT.ht) (ne14 e kq tT.hs) (ne14 e kq tT.ho) n fun z hz n => ne14 e kq (hd.hl T hT z hz (nzo z hz n))) (fun x hx => ⟨_, wl x hx⟩) (fun x hx => ?_) fun _ z => z
          obtain ⟨dx, q⟩ := U.un x hx
          exact ⟨dx, _, q⟩
      cases err with
      | some u => exact fun H' U => undo "" rfl rfl H' U
      | none =>
        cases hw : l.why with
        | some u =>
          unfold endO
          rw [hw]
          exact fun H' U => undo "doomed" (by rw [hw]; rfl) rfl H' U
        | none =>
          unfold endO
          rw [hw]
          show Q (.str "") H2
          have kpA : ∀ b o, H b = some o → b ≠ S.d → b ≠ S.p.b → b ≠ T.t → b ≠ T.q.s → H2 b = some o := fun b o e n1 n2 n3 n4 => nn b o (kp1 b o e n1 n2) n4 n3
          have own2 : En.own (⟨l2.why, l2.ws ++ l.ws⟩ :: e) = T.e.own := by rw [own_merge, eTe]
          have tn : TrG c CW H2 F S.p ⟨T.t, T.q, ⟨l2.why, l2.ws ++ l.ws⟩ :: e⟩ := by
            refine ⟨by simp, ?_, ?_, s2, fun x hx => ?_, fun l0 h0 => tT.low l0 (by rw [eTe]; exact List.mem_cons_of_mem _ h0), tT.nos, tT.nob, tT.nom, tT.nsb, tT.nsm, tT.ft, tT.fo, tT.fs, fun x hx => tT.fw x (by rw [← own2]; exact hx)⟩
            · show H2 T.t = some (.ins c.T T.q.dx (trf T.q.o T.q.s (oV l2.why)))
              rw [l2w]
              exact t2
            · show H2 T.q.o = some (.lst (refs (En.own (⟨l2.why, l2.ws ++ l.ws⟩ :: e))))
              rw [own2]
              exact kpA _ _ tT.ho (ne_kin tT.ho hdb.hd (by simp [kin])) tT.nob (ne_kin tT.ho tT.ht (by simp [kin])) tT.nos
            · have hx : x ∈ En.own (⟨l2.why, l2.ws ++ l.ws⟩ :: e) := hx
              rw [own2] at hx
              obtain ⟨dx, f, q⟩ := tT.hw x hx
              exact ⟨dx, f, kpA _ _ q (ne14 q rfl hdb.hd) (ne14 q rfl hdb.hb) (ne14 q rfl tT.ht) (ne14 q rfl tT.hs)⟩
          refine k' H2 { S with bl := bl, sorts := s, top := some ⟨T.t, T.q, ⟨l2.why, l2.ws ++ l.ws⟩ :: e⟩ } "" [] [] (fr1.trans fr2) (hd.topRe (T' := ⟨T.t, T.q, ⟨l2.why, l2.ws ++ l.ws⟩ :: e⟩) et rfl rfl rfl own2 rfl rfl rfl (fun _ z => z) kpA tn d3 ?_ (wf_top wf')) ⟨rfl, rfl, rfl, lb, rfl, Nat.le_refl _⟩ ⟨T, l, l2, e, et, eTe, rfl, rfl, .inr ⟨rfl, hw, rfl, rfl, rfl, rfl⟩⟩
            (ft0 fun b o e kq => kpA b o e (ne14 e kq hdb.hd) (ne14 e kq hdb.hb) (ne14 e kq tT.ht) (ne14 e kq tT.hs))
          exact bk2.mv (fun x xs _ e => kpA _ _ e (ne_kin e hdb.hd (by simp [kin])) (ne_kin e hdb.hb (by simp [kin])) (ne_kin e tT.ht (by simp [kin])) (ne_kin e tT.hs (by simp [kin]))) fun _ z => z
    | base =>
      injection hbk with e1 e2
      subst e1
      obtain ⟨T, l, et, eTe, u, r, eu, wf'⟩ : ∃ T l, S.top = some T ∧ T.e = [l] ∧ ∃ u r, S.sus = u :: r ∧ Wf s (eT u :: r.map eT) := by
        cases q : eT S.top with
        | nil => rw [q] at wf; exact wf.elim
        | cons l e0 =>
          rw [q] at wf
          cases e0 with
          | cons l2 e => exact wf.elim
          | nil =>
            obtain ⟨T, et, eTe⟩ := some_top q (by simp)
            have wf : Wf s (S.sus.map eT) := wf
            cases es2 : S.sus with
            | nil =>
              rw [es2] at wf
              cases s with
              | nil => cases wf
              | cons o s => cases o <;> exact wf.elim
            | cons u r =>
              rw [es2] at wf
              exact ⟨T, l, et, eTe, u, r, rfl, wf⟩
      have hT := SG.topMem et
      have tT := hd.tr T hT
      have t1 := tT.far hdb (fun _ z => z) kp1
      rw [et] at d2 e2 ⊢
      rw [eu] at d2 e2 ⊢
      have bk2 : BkR H F bl.reverse (blkOf s (vT u :: r.map vT)) := by
        have e2 : blkOf s (vT u :: r.map vT) = m := e2
        rw [e2]
        exact bk'
      have ht1 : HT H1 F S.p T.q.o S.held T.e.own := ⟨hd.all T hT, fun z hz n => kp1 _ _ (hd.hl T hT z hz n) (ne_kin (hd.hl T hT z hz n) hdb.hd (by simp [kin])) (hd.nl z hz).1, hd.one, fun z hz => ⟨((hd.nl z hz).2.2 T hT).1, (hd.nl z hz).1, (hd.nl z hz).2.1⟩, hd.fl⟩
      have zT := sz.2.2.2.2 T hT
      have zk := sz.2.2.2.1
      have ow : T.e.own = l.ws := by rw [eTe, own_cons]; rfl
      have wl : ∀ x ∈ T.e.own, WAt CW H (.ref T.t) x := tT.hw
      have tsu : ∀ S' : SG, S'.top = u → S'.sus = r → S'.ts = S.sus.filterMap id := fun S' q1 q2 => by
        unfold SG.ts
        rw [q1, q2, eu]
        cases u <;> rfl
      refine iteT ⟨_, rfl, S.d, S.p.dx, _, rfl, d2.hd, rfl, _, rfl, _, rfl, _, rfl, S.d, S.p, _, bl, S.made, S.held, S.kept, F, T, l, [], err, goes, rfl, d2, t1, eTe, ht1, (fun z hz => ((hd.nl z hz).2.2 T hT).2), zT.1, zk, zT.2, fun H2 fr2 d3 nn s2 t2 => ?_⟩
      have undo : ∀ rr : Str, ((err.isSome || l.why.isSome) = true ∧ [] = ([] : List Wr) ∧ l.ws = l.ws ∧ rr = (if err.isSome = true then "" else "doomed")) ∨ (err = none ∧ l.why = none ∧ goes = true ∧ [] = l.ws ∧ l.ws = [] ∧ rr = "") ∨ (err = none ∧ l.why = none ∧ goes = false ∧ [] = ([] : List Wr) ∧ l.ws = l.ws ∧ rr = "refused") →
          ∀ H', UInv c CW H2 H' F S.d T.t S.p (vT u) bl S.made S.held S.kept [] l.ws [] l.ws T.q.o → Q (.str rr) H' := by
        intro rr c1 H' U
        have kpA : ∀ b o, H b = some o → b ≠ S.d → b ≠ S.p.b → b ≠ S.p.h → b ≠ T.t → b ≠ T.q.s → b ≠ T.q.o → (∀ x ∈ T.e.own, b ≠ x.a) → (∀ z ∈ S.held, ofR T.e.own z.1 ≠ [] → b ≠ z.2) → H' b = some o := fun b o e n1 n2 n3 n4 n5 n6 n7 n8 => by
          rw [ow] at n7 n8
          exact U.out b o (nn b o (kp1 b o e n1 n2) n5 n4) n6 n3 n7 n8
        have db' := U.db
        refine k' H' { S with bl := bl, sorts := s, top := u, sus := r, held := heldCut S.held ([] ++ l.ws) ([] ++ []) } rr [] l.ws (fr1.trans (fr2.trans U.fr))
          (hd.gone et (tsu _ rfl rfl) rfl (fun _ z => z) (fun z => ?_) List.filter_sublist (fun b o e n1 n2 n3 _ n5 n6 n7 n8 n9 => kpA b o e n1 n2 n3 n5 n6 n7 n8 n9) db' ?_ wf') ⟨rfl, rfl, rfl, lb, rfl, len_cut ..⟩ ⟨T, l, u, et, eTe, eu, rfl, rfl, c1⟩ fun W hW => ?_
        · show z ∈ heldCut S.held ([] ++ l.ws) ([] ++ []) ↔ _
          rw [mem_cut, ow]
          refine and_congr_right fun _ => ?_
          show ([] : List Wr) ≠ [] ∨ ofR l.ws z.1 = [] ↔ _
          simp
        · refine bk2.mv (fun x xs _ e => kpA _ _ e (ne_kin e hdb.hd (by simp [kin])) (ne_kin e hdb.hb (by simp [kin])) (ne_kin e hdb.hh (by simp [kin])) (ne_kin e tT.ht (by simp [kin])) (ne_kin e tT.hs (by simp [kin])) (ne_kin e tT.ho (by simp [kin])) (fun y hy => ?_) fun z hz n => ne_kin e (hd.hl T hT z hz n) (by simp [kin])) fun _ z => z
          obtain ⟨dx, f, q⟩ := wl y hy
          exact ne_kin e q (by simp [kin])
        · rw [fateOf_nil]
          refine hW.fate (fun b o e kq n => kpA b o e (ne14 e kq hdb.hd) (ne14 e kq hdb.hb) (ne14 e kq hdb.hh) (ne14 e kq tT.ht) (ne14 e kq tT.hs) (ne14 e kq tT.ho) (by rw [ow]; exact n) fun z hz n => ne14 e kq (hd.hl T hT z hz n)) (fun x hx => ⟨_, wl x (by rw [ow]; exact hx)⟩) (fun x hx => ?_) fun _ z => z
          obtain ⟨dx, q⟩ := U.un x hx
          exact ⟨dx, _, q⟩
      cases err with
      | some w => exact fun H' U => undo "" (.inl ⟨rfl, rfl, rfl, rfl⟩) H' U
      | none =>
        cases hw : l.why with
        | some w =>
          unfold endO
          rw [hw]
          exact fun H' U => undo "doomed" (.inl ⟨by rw [hw]; rfl, rfl, rfl, rfl⟩) H' U
        | none =>
          unfold endO
          rw [hw]
          cases goes with
          | false => exact fun H' U => undo "refused" (.inr (.inr ⟨rfl, hw, rfl, rfl, rfl, rfl⟩)) H' U
          | true =>
            intro H' U
            have kpA : ∀ b o, H b = some o → b ≠ S.d → b ≠ S.p.b → b ≠ S.p.h → b ≠ S.p.k → b ≠ T.t → b ≠ T.q.s → (∀ x ∈ T.e.own, b ≠ x.a) → H' b = some o := fun b o e n1 n2 n3 n4 n5 n6 n7 => U.out b o (nn b o (kp1 b o e n1 n2) n6 n5) n4 n3 n7
            have db' := U.db
            refine k' H' { S with bl := bl, sorts := s, top := u, sus := r, held := rest S.held T.e.own, kept := T.e.own.foldl putW S.kept } "" T.e.own [] (fr1.trans (fr2.trans U.fr))
              (hd.gone et (tsu _ rfl rfl) rfl (fun _ z => z) (fun z => mem_rest) List.filter_sublist (fun b o e n1 n2 n3 n4 n5 n6 _ n8 _ => kpA b o e n1 n2 n3 n4 n5 n6 n8) db' ?_ wf') ⟨rfl, rfl, rfl, lb, rfl, len_rest ..⟩ ⟨T, l, u, et, eTe, eu, rfl, rfl, .inr (.inl ⟨rfl, hw, rfl, ow, rfl, rfl⟩)⟩ fun W hW => ?_
            · refine bk2.mv (fun x xs _ e => kpA _ _ e (ne_kin e hdb.hd (by simp [kin])) (ne_kin e hdb.hb (by simp [kin])) (ne_kin e hdb.hh (by simp [kin])) (ne_kin e hdb.hk (by simp [kin])) (ne_kin e tT.ht (by simp [kin])) (ne_kin e tT.hs (by simp [kin])) fun y hy => ?_) fun _ z => z
              obtain ⟨dx, f, q⟩ := wl y hy
              exact ne_kin e q (by simp [kin])
            · rw [fateOf_nil]
              refine hW.fate (fun b o e kq n => kpA b o e (ne14 e kq hdb.hd) (ne14 e kq hdb.hb) (ne14 e kq hdb.hh) (ne14 e kq hdb.hk) (ne14 e kq tT.ht) (ne14 e kq tT.hs) n) (fun x hx => ⟨_, wl x hx⟩) (fun x hx => ?_) fun _ z => z
              obtain ⟨dx, q⟩ := U.dn x hx
              exact ⟨dx, _, q⟩
end
end IC
namespace PySem
namespace ICK
open PySem.W PySem.Calls PyProof.Rows HotX
section
variable {pg : Program} {wd : World} {Ar : Around} {Ex : Value → Shared → Prop} {st : Shared}
/-- a list's iterator at its end, while an exception is handled -/
theorem list_end_hot {it l x1 : Addr} {i : Nat} {items : Array Value} {Qn : Option Value → Shared → Prop} (hot : HotAt Ar x1 st.heap) (ne : x1 ≠ it) (hit : st.heap.IsListIter it l i) (hl : st.heap.IsList l items) (hx : items[i]? = none)
    (hQ : ∀ h', (∀ b o, b ≠ it → st.heap.get? b = some o → h'.get? b = some o) → Qn none { st with heap := h' }) : wpAny (model pg wd) Ar (pyNext (.ref it)) Qn Ex st := by
  obtain ⟨oi, ho, hc, hd⟩ := id hit
  obtain ⟨ol, hol, _, nl, hdl⟩ := hl
  obtain ⟨hh, o1, vs1, h1, d1, c1⟩ := hot
  unfold pyNext
  refine wpAny_bind (wpAny_attempt (wpAny_callSpecial?_slot (name := Str.ofString "__next__") hit.typeIs slot_listiter_next (wpAny_call_entry slot_listiter_next hit.typeIs entry_listiter_next ?_ (args_listiter_next _))))
  show wpAny _ _ (field (.ref it) 0 >>= _) _ _ st
  refine wpAny_bind (wpAny_field ho hd (x := .ref l) rfl ?_)
  show wpAny _ _ (if (Value.ref l == Value.none) = true then _ else _) _ _ st
  rw [if_neg (show ¬ ((Value.ref l == Value.none) = true) from Bool.false_ne_true)]
  show wpAny _ _ (field (.ref it) 1 >>= _) _ _ st
  refine wpAny_bind (wpAny_field ho hd (x := .int i 0) rfl ?_)
  show wpAny _ _ (seqItems? (.ref l) >>= _) _ _ st
  refine wpAny_bind (wpAny_seqItems hol hdl ?_)
  simp only [Int.toNat_natCast, hx]
  refine wpAny_bind (wpAny_rule (wpAny_bind (wpAny_setField ho hd (by simp) ?_)))
  show wpAny _ _ (newExc (.type "StopIteration") [] >>= _) _ _ _
  refine wpAny_bind ?_
  simp only [newExc, newTuple]
  refine wpAny_bind (wpAny_newObj_type ?_ (by size_fits))
  refine wpAny_bind (m := firstArgMember _ _) (wpAny_of_eq (a := Value.none) (by first | rfl | (simp only [firstArgMember]; rfl)) ?_)
  refine wpAny_newObj_type ?_ (by size_fits)
  have k1 : ∀ (f : Obj → Obj) (b : Addr) (o : Obj), b ≠ it → st.heap.get? b = some o → (st.heap.update it f).get? b = some o := fun f b o n e => (Heap.get?_update_other _ _ (Ne.symm n)).trans e
  refine raiseNew_hot ⟨hh, o1, vs1, Heap.get?_push_of_some _ (Heap.get?_push_of_some _ (k1 _ _ _ ne h1)), d1, c1⟩ (Nat.ne_of_lt (Heap.lt_size (Heap.get?_push_of_some _ (k1 _ _ _ ne h1)))) (Heap.get?_push_size _ rfl) rfl (by first | (simp; done) | (simp; omega) | (simp only [Array.size_append]; simp; omega)) ?_
  refine wpAny_bind (wpAny_isInstance (T := "StopIteration") (b := true) ⟨_, Heap.get?_update_self _ (Heap.get?_push_size _ rfl) rfl, rfl⟩ isSubtype_stop ?_)
  refine wpAny_pure (hQ _ fun b o n e => ?_)
  rw [Heap.get?_update_other _ _ (Nat.ne_of_gt (Heap.lt_size (Heap.get?_push_of_some _ (k1 _ _ _ n e))))]
  exact Heap.get?_push_of_some _ (Heap.get?_push_of_some _ (k1 _ _ _ n e))
/-- a tuple's iterator at its end -/
theorem tuple_end_hot {it l x1 : Addr} {i : Nat} {items : Array Value} {Qn : Option Value → Shared → Prop} (hot : HotAt Ar x1 st.heap) (ne : x1 ≠ it) (hit : IsTupIter st.heap it l i) (hl : IsTup st.heap l items) (hx : items[i]? = none)
    (hQ : ∀ h', (∀ b o, b ≠ it → st.heap.get? b = some o → h'.get? b = some o) → Qn none { st with heap := h' }) : wpAny (model pg wd) Ar (pyNext (.ref it)) Qn Ex st := by
  obtain ⟨oi, ho, hc, hd⟩ := id hit
  obtain ⟨ol, hol, _, nl, hdl⟩ := hl
  obtain ⟨hh, o1, vs1, h1, d1, c1⟩ := hot
  unfold pyNext
  refine wpAny_bind (wpAny_attempt (wpAny_callSpecial?_slot (name := Str.ofString "__next__") hit.typeIs slot_tupleiter_next (wpAny_call_entry slot_tupleiter_next hit.typeIs entry_tupleiter_next ?_ (args_tupleiter_next _))))
  show wpAny _ _ (field (.ref it) 0 >>= _) _ _ st
  refine wpAny_bind (wpAny_field ho hd (x := .ref l) rfl ?_)
  show wpAny _ _ (if (Value.ref l == Value.none) = true then _ else _) _ _ st
  rw [if_neg (show ¬ ((Value.ref l == Value.none) = true) from Bool.false_ne_true)]
  show wpAny _ _ (field (.ref it) 1 >>= _) _ _ st
  refine wpAny_bind (wpAny_field ho hd (x := .int i 0) rfl ?_)
  show wpAny _ _ (seqItems? (.ref l) >>= _) _ _ st
  refine wpAny_bind (wpAny_seqItems hol hdl ?_)
  simp only [Int.toNat_natCast, hx]
  refine wpAny_bind (wpAny_rule (wpAny_bind (wpAny_setField ho hd (by simp) ?_)))
  show wpAny _ _ (newExc (.type "StopIteration") [] >>= _) _ _ _
  refine wpAny_bind ?_
  simp only [newExc, newTuple]
  refine wpAny_bind (wpAny_newObj_type ?_ (by size_fits))
  refine wpAny_bind (m := firstArgMember _ _) (wpAny_of_eq (a := Value.none) (by first | rfl | (simp only [firstArgMember]; rfl)) ?_)
  refine wpAny_newObj_type ?_ (by size_fits)
  have k1 : ∀ (f : Obj → Obj) (b : Addr) (o : Obj), b ≠ it → st.heap.get? b = some o → (st.heap.update it f).get? b = some o := fun f b o n e => (Heap.get?_update_other _ _ (Ne.symm n)).trans e
  refine raiseNew_hot ⟨hh, o1, vs1, Heap.get?_push_of_some _ (Heap.get?_push_of_some _ (k1 _ _ _ ne h1)), d1, c1⟩ (Nat.ne_of_lt (Heap.lt_size (Heap.get?_push_of_some _ (k1 _ _ _ ne h1)))) (Heap.get?_push_size _ rfl) rfl (by first | (simp; done) | (simp; omega) | (simp only [Array.size_append]; simp; omega)) ?_
  refine wpAny_bind (wpAny_isInstance (T := "StopIteration") (b := true) ⟨_, Heap.get?_update_self _ (Heap.get?_push_size _ rfl) rfl, rfl⟩ isSubtype_stop ?_)
  refine wpAny_pure (hQ _ fun b o n e => ?_)
  rw [Heap.get?_update_other _ _ (Nat.ne_of_gt (Heap.lt_size (Heap.get?_push_of_some _ (k1 _ _ _ n e))))]
  exact Heap.get?_push_of_some _ (Heap.get?_push_of_some _ (k1 _ _ _ n e))
/-- a tuple is unpacked -/
theorem unpack_hot {t x1 : Addr} {items : Array Value} {targets : List (Bool × (Value → Sem Unit))} {Qn : Unit → Shared → Prop} (hot : HotAt Ar x1 st.heap) (ht : IsTup st.heap t items) (hn : targets.length = items.size) (hstar : targets.findIdx? (·.1) = none)
    (h : ∀ h', (∀ b o, st.heap.get? b = some o → h'.get? b = some o) → wpAny (model pg wd) Ar (assignInOrder (targets.map (·.2)) items.toList) Qn Ex { st with heap := h' }) : wpAny (model pg wd) Ar (unpack (.ref t) targets) Qn Ex st := by
  have hlt : t ≠ st.heap.objs.size := by obtain ⟨o, ho, _⟩ := ht; exact Nat.ne_of_lt (Heap.lt_size ho)
  obtain ⟨hh, o1, vs1, h1, d1, c1⟩ := hot
  have ne1 : x1 ≠ st.heap.objs.size := Nat.ne_of_lt (Heap.lt_size h1)
  unfold unpack
  rw [hn, hstar]
  refine wpAny_bind (wpAny_holding ?_)
  unfold unpackItems
  refine wpAny_bind ?_
  unfold notIterableAtAll
  refine wpAny_bind (wpAny_specialOf ht.typeIs slot_tuple_iter.lookup ?_)
  refine wpAny_pure ?_
  simp only [Bool.false_eq_true, if_false]
  refine wpAny_bind (wpAny_holding (iter_tuple ht ?_))
  refine wpAny_bind (wpAny_holding (draw_tuple hlt items.size 0 _ _ ⟨_, Heap.get?_push_size _ rfl, rfl, rfl⟩ (ht.push _) (by omega) fun h₁ hit₁ hs₁ => ?_))
  have all : List.take items.size (List.drop 0 items.toList) = items.toList := by
    rw [List.drop_zero]
    exact List.take_of_length_le (by simp)
  rw [all, if_neg (by simp)]
  have ht₁ : IsTup h₁ t items := (ht.push _).extBut hs₁.extBut hlt
  refine wpAny_bind (wpAny_holding (tuple_end_hot (x1 := x1) ⟨hh, o1, vs1, hs₁.extBut x1 _ ne1 (Heap.get?_push_of_some _ h1), d1, c1⟩ ne1 hit₁ ht₁ (by simp) fun h₂ he₂ => ?_))
  simp only [Option.isSome_none, Bool.false_eq_true, if_false]
  exact wpAny_pure (h h₂ fun b o e => he₂ b o (Nat.ne_of_lt (Heap.lt_size e)) (hs₁.extBut b o (Nat.ne_of_lt (Heap.lt_size e)) (Heap.get?_push_of_some _ e)))
end
end ICK
end PySem
namespace IC
open PySem PySem.Spec PyProof.Rows L2 L2H PySem.ICK
/-! ### what is walked while an exception is handled -/
theorem turn_listH {P : Program} {w : World} {K : PySem.W.Frag} {tg : Expr} (a it : Addr) : TurnH P w K tg (Itl K a) [it] it (fun i h => h.IsListIter it a i) where
  mem := List.mem_singleton.mpr rfl
  obj := fun i h x b hb => by
    rw [List.mem_singleton.mp hb]
    obtain ⟨o, e, c, d⟩ := x
    exact ⟨o, e, fun v z => by rw [d] at z; cases z⟩
  keep := fun i h h' x k => x.at fun o e => k it (List.mem_singleton.mpr rfl) o e
  item := by
    intro X hP hw hK hc i pins s σ H E I hf x hg
    subst hP hw hK
    obtain ⟨xs, y, hq, hx⟩ := hg
    obtain ⟨its, rv, p, hz⟩ := I.list hq
    obtain ⟨u, hu, ru⟩ := rv.get hx
    obtain ⟨f0, f1, f2, f3, f4, f5⟩ := hf it (List.mem_singleton.mpr rfl)
    refine wpAny_pyNext_list_item x p.isList (x := u) (by simpa using hu) fun h' x' sb => ?_
    have J : Inv X pins σ H { s with heap := h' } := I.turned (t' := s.toks) (fun b o hb e => (sb.2 b hb).trans e) f0 f1 f3 f4 f5
    obtain ⟨o, e, c, d⟩ := id x'
    exact ⟨u, rfl, go_of (s := { s with heap := h' }) e c d (by decide) ⟨y, H, J, ru, ⟨rfl, fun ys hy => by rw [I.list_inj hy hq]; exact hx⟩, x', fun b hb => (hf b hb).1⟩⟩
  done := by
    intro X hP hw hK hc i pins s σ H E I hf x hg
    subst hP hw hK
    obtain ⟨xs, hq, hx⟩ := hg
    obtain ⟨its, rv, p, hz⟩ := I.list hq
    obtain ⟨f0, f1, f2, f3, f4, f5⟩ := hf it (List.mem_singleton.mpr rfl)
    have hl := rv.length
    obtain ⟨q, ⟨hh, v1, e1, c1⟩, hp⟩ := hc
    have iq := (I.pin q (List.mem_append_left _ hp)).1
    exact list_end_hot (x1 := q.1) ⟨hh, q.2, v1, iq, e1, c1⟩ (f5 q (List.mem_append_left _ hp)) x p.isList (by simp; omega) fun h' eb => ⟨rfl, I.turned (t' := s.toks) (fun b o hb e => eb b o hb e) f0 f1 f3 f4 f5⟩
  self := fun _ _ _ _ _ x h => wpAny_pyIter_listiter x h
section
variable {X : Cx} {tg : Expr}
theorem pi_listH {l : Expr} {tl : TE} (hl : PE X l tl) : PIH X tg l (iList X.K tl) := by
  refine ⟨fun pins s σ H R I h => ?_⟩
  refine thn (hl.run pins s σ H _ I h) fun v s1 ⟨x, H1, I1, r1, a, e, ⟨xs, hq⟩, q⟩ => ?_
  subst e
  cases r1
  obtain ⟨its, rv, p, hz⟩ := I1.list hq
  refine wpAny_pyIter_list p.isList ⟨s1.heap.objs.size, [s1.heap.objs.size], _, _, H1, rfl, I1.kept (t' := s1.toks) fun b o e => Heap.get?_push_of_some _ e, turn_listH a _, ⟨_, Heap.get?_push_size _ rfl, rfl, rfl⟩, fun b hb => ?_, q⟩
  rw [List.mem_singleton.mp hb]
  exact I1.fpOk (Nat.le_refl _) (I1.hok.fresh (Nat.le_refl _))
theorem pg_tupH {es : List Expr} {k : Nat} {pos : Pos} {t : TGs} {n : Nat} (hc : HotC X) (h : PGs X es t) (hn : (assignEach es X.env).length = n := by rfl) (hst : (assignEach es X.env).findIdx? (·.1) = none := by rfl) : PG X (.Tuple es k pos) (gTup X.K n t) := by
  refine ⟨fun pins s σ H v u Q I r hw => ?_⟩
  obtain ⟨a, xs, e1, hq, hl, hw⟩ := hw
  subst e1
  cases r
  obtain ⟨its, rv, ht, hz⟩ := I.tuple hq
  obtain ⟨x1, hot⟩ := hc.at I
  rw [assign_Tuple]
  refine wpAny_bind (wpAny_standAt (unpack_hot hot ht (by simp [hn, ← hl, rv.length]) hst fun h' hx => ?_))
  have J : Inv X pins σ H { s with heap := h' } := I.kept (t' := s.toks) hx
  exact h.run pins _ σ H xs _ Q J (by simpa using rv) hw
end
end IC
namespace IC
open PySem PySem.Spec PyProof.Rows L2 TL
/-! ### defs that are called while an exception is handled -/
theorem huH {k : Nat} {A : Around} (r : L2H.RoomH k A) : A.units + 1 < cLine := by have := r.un; omega
theorem Fun.okH {P : Program} {w : World} {K : PySem.W.Frag} {mg : Str → Option Value} {base : Heap} {x qual : Str} {st : Stmt} {fa : Addr} {fd : FuncData} {M ps : List Str} {n : Nat} {sp : Sp} (D : Fun K x qual st fa fd) (S : FnScope M ps (defScope st)) (len : ∀ vs H Q E, sp vs H Q E → vs.length = ps.length)
    (walk : ∀ (cdv : Value) (B : Around) (out : List Env) (s : Shared) (H : Hp) (vs : List V) (Q : VK) (E : XK) (p : Addr × Obj), L2H.RoomH n (B.deeper (envOfC qual (defScope st) s.heap.objs.size fa cdv)) → L2H.HotC (L2H.cxH CX0 P w K mg base M qual (defScope st) fa cdv B out s H E p).nox → sp vs H Q E →
      ∃ t, PSs (L2H.cxH CX0 P w K mg base M qual (defScope st) fa cdv B out s H E p).nox (defBody st) t ∧ t { nx := fun _ G => Q .non G, rt := Q } (L2.start M vs) H) : L2H.FnH P w K mg base CX0 (n + 1) fa fd ps sp := by
  obtain ⟨oc, od, kV, doc, pm, an, cdv, ct, osl, rfl, lk, hcd⟩ := D.ex
  refine L2H.fn_ofH lk hcd S len fun B out s H vs Q E p hot room wish => ?_
  obtain ⟨t, body, goal⟩ := walk cdv B out s H vs Q E p room ⟨p, ⟨hot.1, hot.2⟩, List.mem_singleton.mpr rfl⟩ wish
  exact ⟨t, body.nox, goal⟩
structure MDfH (P : Program) (w : World) (K : PySem.W.Frag) (mg : Str → Option Value) (base : Heap) (k : Nat) (C : Addr) (m : Str) (ps : List Str) (sp : Sp) : Prop where
  ex : ∃ (f : Addr) (fd : FuncData), L2H.FnH P w K mg base CX0 k f fd ps sp ∧ Meth K C m f ∧ Binds K fd ps []
section
variable {X : Cx} {k j : Nat} {C : Addr} {m : Str} {ps : List Str} {sp : Sp} {o e : Expr} {es : List Expr} {pos apos : Pos} {ta : TE} {t : TA} {pl : Sem Bool}
theorem pe_mdH (D : MDfH X.prog X.w X.K X.mg X.base k C m ps sp) (c : Cls X.K C) (hc : L2H.HotC X) (hr : L2H.RoomH j X.A) (hk : k ≤ j) (he : PE X o ta) (ha : PA X (e :: es) t)
    (hst : starEach (e :: es) X.env = (false, eval e X.env) :: starEach es X.env := by rfl) (hpl : (backTo pos (starEach es X.env)).any (·.1) = false := by rfl)
    (ht : eval (.Call (.Attribute o m apos) (e :: es) [] pos) X.env = (do
      let ov ← eval o X.env; standAt apos.atName
      let (f, first) ← holding [ov] (getMethod ov m pl); callWith pos f first (backTo pos (starEach (e :: es) X.env)) (backToKw pos (keywordEach [] X.env))) := by rfl) :
    PE X (.Call (.Attribute o m apos) (e :: es) [] pos) (tMeth C m sp [] E0 ta t) := by
  obtain ⟨f, fd, F, hm, hb⟩ := D.ex
  refine ⟨fun pins s σ H Q I h => PySem.W.methodCall_KW (pl := pl) (thn (he.run pins s σ H _ I h) fun u s1 ⟨x, H1, I1, rx, a, dx, fs, ex, ea, l, q⟩ => ?_) ht⟩
  subst ex
  obtain rfl : u = Value.ref a := rx
  refine getmeth_ok I1 ea c hm l (PySem.W.callWith_K (first := [.ref a]) (h₀ := X.base) I1.ok.mod.kin hm.kp (thn (ha.run pos pins s1 σ H1 _ I1 q) fun us s2 ⟨vs, H2, I2, r, q2⟩ => ⟨I2.kIn, ?_⟩) hst hpl)
  have q2 : sp (.ref a :: (vs ++ [])) H2 Q E0 := q2
  rw [List.append_nil] at q2
  exact L2H.run_fnH (E := fun _ => E0) (us := .ref a :: us) (vs := .ref a :: vs) F ⟨by have := hr.dp; omega, by have := hr.un; omega⟩ hc hb (fun pins H s e s' I c => pass0 pins σ H s e s' I c) I2 (.cons rfl r) q2
end
end IC
namespace IC
open PySem L2 TL
section
variable {P : Program} {w : World} {K : PySem.W.Frag} {mg : Str → Option Value} {base : Heap} {c : Cs} {CW EB EN ER EW EBM ENR : Addr}
theorem ok_tr_doomH {f : Addr} {fd : FuncData} (F : Fun K "doom" "Transaction.doom" s_Transaction_doom f fd) (B : DbTxt K mg c) : L2H.FnH P w K mg base CX0 1 f fd ["self", "first"] (spTrDoomG c) := by
  refine IC.Fun.okH F sc_Transaction_doom (fun vs H Q E h => ?_) (fun cdv A outer s H vs Q E pz hr hc h => ?_)
  · obtain ⟨t, q, f, w, rfl, _⟩ := h
    rfl
  · obtain ⟨t, q, f, w, rfl, ht, k⟩ := h
    refine ⟨_, (pss_one (ps_if (pt_cmpR op_isN (pe_fld (pv 0) rfl) pe_non (nomark _))
  (pss_one (ps_fld (pv 0) (pv 1) rfl))
  pss_nil)), ?_⟩
    refine ⟨_, rfl, t, c.T, q.dx, _, oV f, rfl, ht, B.cT, B.n1, rfl, rfl, _, rfl, ?_⟩
    cases f with
    | some u => exact k H (Kp.refl _ _) ht
    | none =>
      refine ⟨_, rfl, _, rfl, t, c.T, q.dx, _, rfl, ht, B.cT, B.n1, (by show 3 < 1000; decide), ?_⟩
      exact k _ (Kp.at_ (List.mem_singleton.mpr rfl)) upd_same
end
end IC
namespace IC
open PySem L2 TL
section
variable {P : Program} {w : World} {K : PySem.W.Frag} {mg : Str → Option Value} {base : Heap} {c : Cs} {CW EB EN ER EW EBM ENR : Addr}
theorem ok_undoH {f : Addr} {fd : FuncData} (F : Fun K "_undo" "Database._undo" s_Database__undo f fd) (T : Bn mg) (B : DbTxt K mg c) (W : WTxt K c CW) : L2H.FnH P w K mg base CX0 1 f fd ["self", "transaction", "start"] (spUndoG c CW) := by
  refine IC.Fun.okH F sc_Database__undo (fun vs H Q E h => ?_) (fun cdv A outer s H vs Q E pz hr hc h => ?_)
  · obtain ⟨d, t, p, uv, bl, made, held, kept, l, m, F, q, fv, rfl, _⟩ := h
    rfl
  · obtain ⟨d, t, p, uv, bl, made, held, kept, l, m, F, q, fv, rfl, db, ht, ho, fo, nob, nom, hw, hh, k⟩ := h
    have hu := huH hr
    refine ⟨_, (pss_one (ps_while PassesOwn.never (pt_cmpR op_gt (pe_callB call_len_seq (by rfl) T.len PySem.boot_len (pa_cons (pe_fld (pv 1) rfl) pa_nil)) (pv 2) (nomark _))
  (pss_cons (ps_set (i := 3) sc_Database__undo.nd rfl (Or.inl rfl) (pe_bm0 PySem.F.plainAttrs_list PySem.F.slot_list_pop PySem.F.type_list_pop mt_pop (pe_fld (pv 1) rfl)))
  (pss_cons (ps_fld (pv 3) pe_str rfl)
  (pss_cons (ps_set (i := 4) sc_Database__undo.nd rfl (Or.inl rfl) (pe_dget hu (pe_fld (pv 0) rfl) (pe_fld (pv 3) rfl) (fun _ _ => rfl)))
  (pss_cons (ps_expr (pe_bm0 PySem.F.plainAttrs_list PySem.F.slot_list_pop PySem.F.type_list_pop mt_pop (pv 4)))
  (pss_one (ps_if (pt_not (pt_truth (pv 4) (by intro _; rfl)))
  (pss_one (ps_ddel (pe_fld (pv 0) rfl) (pe_fld (pv 3) rfl)))
  pss_nil)))))))), ?_⟩
    refine ⟨fun n σ' H' => ∃ w3 w4 m1 m2, m = m1 ++ m2 ∧ m1.length = n ∧ σ' = [some (.ref d), some (.ref t), some (.int l.length), w3, w4] ∧ UInv c CW H H' F d t p uv bl made held kept l m m1 m2 q.o, ⟨m.length, none, none, m, [], by simp, rfl, rfl, Fr.refl _ _, by rw [heldCut_self]; exact db, ho, by rw [heldCut_self]; exact hh, fun x hx => (hw x hx).1, nofun, fun _ _ e _ _ _ _ => e⟩, ?_⟩
    rintro n σ' H' ⟨w3, w4, m1, m2, em, en, rfl, I⟩
    have ht' : H' t = some (.ins c.T q.dx (trf q.o q.s fv)) := by
      refine I.out _ _ ht (ne_kin ht ho (by simp [kin])) (ne_kin ht db.hh (by simp [kin])) (fun x hx => ?_) fun z hz _ => ?_
      · obtain ⟨dx, f, e⟩ := (hw x (List.mem_append_right _ hx)).1
        exact ne_kin ht e (by simp [kin])
      · refine ne_kin ht (hh.hl z hz fun e => ?_) (by simp [kin])
        rename_i q2
        rw [ofR_app] at e
        exact q2 (List.append_eq_nil_iff.mp e).2
    refine ⟨_, rfl, t, c.T, q.dx, _, _, rfl, ht', B.cT, B.nO, rfl, q.o, _, rfl, .inl (SqL.of I.ho), _, rfl, _, _, rfl, rfl, _, rfl, ?_⟩
    have ll : (refs (l ++ m1)).length = l.length + m1.length := by
      show ((l ++ m1).map _).length = _
      rw [List.length_map, List.length_append]
    rcases List.eq_nil_or_concat m1 with rfl | ⟨m1', x, ec⟩
    · rw [ll, decide_eq_false (by show ¬ ((l.length : Int) < ((l.length + 0 : Nat) : Int)); omega)]
      have : m2 = m := by rw [em]; rfl
      subst this
      exact iteF (k H' I)
    · rw [List.concat_eq_append] at ec
      subst ec
      rw [ll, decide_eq_true (by rw [List.length_append, List.length_singleton]; omega)]
      refine iteT ?_
      have xm : x ∈ m := by rw [em]; simp
      have xa : x ∈ l ++ m := List.mem_append_right _ xm
      have ho' := I.ho
      have sp : refs (l ++ (m1' ++ [x])) = refs (l ++ m1') ++ [.ref x.a] := by
        unfold refs
        rw [← List.append_assoc, List.map_append]
        rfl
      rw [sp] at ho'
      refine ⟨fun σ2 H2 => ∃ w3 w4 m1 m2, m = m1 ++ m2 ∧ m1.length = m1'.length ∧ σ2 = [some (.ref d), some (.ref t), some (.int l.length), w3, w4] ∧ UInv c CW H H2 F d t p uv bl made held kept l m m1 m2 q.o, fun σ2 H2 h => ⟨m1'.length, by rw [← en, List.length_append, List.length_singleton]; omega, h⟩, ?_⟩
      refine ⟨_, rfl, t, c.T, q.dx, _, _, rfl, ht', B.cT, B.nO, rfl, .inl ⟨rfl, _, SqL.of ho'⟩, q.o, _, .ref x.a, rfl, rfl, ho', ?_, ?_⟩
      · rw [List.length_append, List.length_singleton, Nat.add_sub_cancel, List.getElem?_append_right (Nat.le_refl _), Nat.sub_self]
        rfl
      rw [List.dropLast_concat]
      obtain ⟨dx, ft, ew⟩ := I.hw x xa
      have ew1 : upd H' q.o (.lst (refs (l ++ m1'))) x.a = some (.ins CW dx (wrf x.r x.v (.ref t) (.str ft))) := by
        rw [upd_ne (ne_kin ew I.ho (by simp [kin]))]
        exact ew
      have d1 := I.db.offL (o := .lst (refs (l ++ m1'))) I.ho nob.symm nom.symm
      refine ⟨_, rfl, x.a, CW, dx, _, rfl, ew1, W.cW, W.nF, (by show 4 < 1000; decide), ?_⟩
      have d2 := d1.fate (f' := "undone") ew1
      have ew2 := (upd_same : upd (upd H' q.o (.lst (refs (l ++ m1')))) x.a (.ins CW dx (wrf x.r x.v (.ref t) (.str "undone"))) x.a = _)
      obtain ⟨z, zm, zr⟩ := I.ht.all x (by simp)
      have onx : ofR (l ++ (m1' ++ [x])) x.r = ofR (l ++ m1') x.r ++ [x] := by rw [← List.append_assoc, ofR_one, if_pos rfl]
      have hz := I.ht.hl z zm (by rw [zr, onx]; simp)
      rw [zr, onx] at hz
      have rz : refs (ofR (l ++ m1') x.r ++ [x]) = refs (ofR (l ++ m1') x.r) ++ [.ref x.a] := by
        unfold refs
        rw [List.map_append]
        rfl
      rw [rz] at hz
      have hz2 : upd (upd H' q.o (.lst (refs (l ++ m1')))) x.a (.ins CW dx (wrf x.r x.v (.ref t) (.str "undone"))) z.2 = some (.lst (refs (ofR (l ++ m1') x.r) ++ [.ref x.a])) := by
        rw [upd_ne (ne_kin hz ew (by simp [kin])), upd_ne (I.ht.nl z zm).1]
        exact hz
      have fz : ((heldCut held (l ++ m) (l ++ (m1' ++ [x]))).find? fun z => decide (z.1 = x.r)) = some z := by
        cases e : (heldCut held (l ++ m) (l ++ (m1' ++ [x]))).find? fun z => decide (z.1 = x.r) with
        | none => exact absurd (decide_eq_true zr) (List.find?_eq_none.mp e z zm)
        | some y =>
          have ym := List.mem_of_find?_eq_some e
          have yr : y.1 = x.r := of_decide_eq_true (List.find?_some (p := fun z : Str × Addr => decide (z.1 = x.r)) e)
          rw [I.ht.one y ym z zm (.inl (yr.trans zr.symm))]
      have g : DGet (upd (upd H' q.o (.lst (refs (l ++ m1')))) x.a (.ins CW dx (wrf x.r x.v (.ref t) (.str "undone")))) p.h (.str x.r) (some (.ref z.2)) := by
        have q := DGet.k (k := .inr x.r) d2.hh
        rw [valV_hd3, fz] at q
        exact q
      refine ⟨_, rfl, d, c.D, p.dx, _, _, rfl, d2.hd, B.cD, B.nH, rfl, _, rfl, x.a, CW, dx, _, _, rfl, ew2, W.cW, W.nR, rfl, p.h, .ref z.2, rfl, g, ?_⟩
      refine ⟨_, rfl, .inl ⟨rfl, _, SqL.of hz2⟩, z.2, _, .ref x.a, rfl, rfl, hz2, ?_, ?_⟩
      · rw [List.length_append, List.length_singleton, Nat.add_sub_cancel, List.getElem?_append_right (Nat.le_refl _), Nat.sub_self]
        rfl
      rw [List.dropLast_concat]
      have d3 := d2.offL (o := .lst (refs (ofR (l ++ m1') x.r))) hz2 (I.ht.nl z zm).2.1.symm (I.ht.nl z zm).2.2.symm
      have hz3 := (upd_same : upd (upd (upd H' q.o (.lst (refs (l ++ m1')))) x.a (.ins CW dx (wrf x.r x.v (.ref t) (.str "undone")))) z.2 (.lst (refs (ofR (l ++ m1') x.r))) z.2 = _)
      have ew3 : upd (upd (upd H' q.o (.lst (refs (l ++ m1')))) x.a (.ins CW dx (wrf x.r x.v (.ref t) (.str "undone")))) z.2 (.lst (refs (ofR (l ++ m1') x.r))) x.a = some (.ins CW dx (wrf x.r x.v (.ref t) (.str "undone"))) := by
        rw [upd_ne (ne_kin ew2 hz2 (by simp [kin]))]
        exact ew2
      have sv : ∀ a u, H' a = some u → a ≠ q.o → a ≠ x.a → a ≠ z.2 → upd (upd (upd H' q.o (.lst (refs (l ++ m1')))) x.a (.ins CW dx (wrf x.r x.v (.ref t) (.str "undone")))) z.2 (.lst (refs (ofR (l ++ m1') x.r))) a = some u := fun a u e n1 n2 n3 => by
        rw [upd_ne n3, upd_ne n2, upd_ne n1]
        exact e
      have ho3 : upd (upd (upd H' q.o (.lst (refs (l ++ m1')))) x.a (.ins CW dx (wrf x.r x.v (.ref t) (.str "undone")))) z.2 (.lst (refs (ofR (l ++ m1') x.r))) q.o = some (.lst (refs (l ++ m1'))) := by
        rw [upd_ne (I.ht.nl z zm).1.symm, upd_ne (ne_kin upd_same ew1 (by simp [kin])), upd_same]
      have fx := (hw x xa).2
      have fr3 : Fr F F H (upd (upd (upd H' q.o (.lst (refs (l ++ m1')))) x.a (.ins CW dx (wrf x.r x.v (.ref t) (.str "undone")))) z.2 (.lst (refs (ofR (l ++ m1') x.r)))) := I.fr.trans ((Fr.at_ fo).trans ((Fr.at_ fx).trans (Fr.at_ (I.ht.fl z zm))))
      have asc : l ++ (m1' ++ [x]) = (l ++ m1') ++ [x] := (List.append_assoc ..).symm
      have sub : ∀ y, y ∈ heldCut held (l ++ m) (l ++ m1') → y ∈ heldCut held (l ++ m) (l ++ (m1' ++ [x])) := fun y hy => by
        have g := mem_cut.mp hy
        refine mem_cut.mpr ⟨g.1, g.2.imp (fun n => ?_) id⟩
        rw [asc, ofR_one]
        split
        · simp
        · exact n
      have fin : ∀ G, (∀ a u, upd (upd (upd H' q.o (.lst (refs (l ++ m1')))) x.a (.ins CW dx (wrf x.r x.v (.ref t) (.str "undone")))) z.2 (.lst (refs (ofR (l ++ m1') x.r))) a = some u → a ≠ p.h → G a = some u) →
          Fr F F (upd (upd (upd H' q.o (.lst (refs (l ++ m1')))) x.a (.ins CW dx (wrf x.r x.v (.ref t) (.str "undone")))) z.2 (.lst (refs (ofR (l ++ m1') x.r)))) G → D3 c CW G F d p uv bl made (heldCut held (l ++ m) (l ++ m1')) kept → UInv c CW H G F d t p uv bl made held kept l m m1' (x :: m2) q.o := by
        intro G gk gf gd
        have same : ∀ (y : Wr) (dy : Addr) (fy : Str), H' y.a = some (.ins CW dy (wrf y.r y.v (.ref t) (.str fy))) → y.a = x.a → G y.a = some (.ins CW dx (wrf y.r y.v (.ref t) (.str "undone"))) := fun y dy fy e q2 => by
          rw [q2, ew] at e
          injection e with e
          injection e with _ _ e4
          simp only [List.cons.injEq, Prod.mk.injEq, V.str.injEq, true_and, and_true] at e4
          rw [q2, ← e4.1, ← e4.2.1]
          exact gk _ _ ew3 (ne_kin ew3 d3.hh (by simp [kin]))
        have go : ∀ (y : Wr) (dy : Addr) (fy : Str), H' y.a = some (.ins CW dy (wrf y.r y.v (.ref t) (.str fy))) → y.a ≠ x.a → G y.a = some (.ins CW dy (wrf y.r y.v (.ref t) (.str fy))) := fun y dy fy e n => by
          have e2 := sv _ _ e (ne_kin e I.ho (by simp [kin])) n (ne_kin e hz (by simp [kin]))
          exact gk _ _ e2 (ne_kin e2 d3.hh (by simp [kin]))
        refine ⟨fr3.trans gf, gd, gk _ _ ho3 (ne_kin ho3 d3.hh (by simp [kin])), ⟨fun y hy => ?_, fun y hy n => ?_, fun y hy y2 hy2 e => I.ht.one y (sub y hy) y2 (sub y2 hy2) e, fun y hy => I.ht.nl y (sub y hy), fun y hy => I.ht.fl y (sub y hy)⟩, fun y hy => ?_, fun y hy => ?_, fun a u e n1 n2 n3 n4 => ?_⟩
        · obtain ⟨y2, m2', e⟩ := I.ht.all y (by rw [asc]; exact List.mem_append_left _ hy)
          refine ⟨y2, mem_cut.mpr ⟨(mem_cut.mp m2').1, .inl fun h => ?_⟩, e⟩
          exact List.filter_eq_nil_iff.mp h y hy (decide_eq_true e.symm)
        · by_cases q2 : y.1 = x.r
          · have yz : y = z := I.ht.one y (sub y hy) z zm (.inl (q2.trans zr.symm))
            rw [yz, zr]
            exact gk _ _ hz3 (ne_kin hz3 d3.hh (by simp [kin]))
          · have o1 : ofR (l ++ (m1' ++ [x])) y.1 = ofR (l ++ m1') y.1 := by rw [asc, ofR_one, if_neg fun h => q2 h.symm]
            have e := I.ht.hl y (sub y hy) (by rw [o1]; exact n)
            rw [o1] at e
            have yz : y.2 ≠ z.2 := fun h => q2 ((congrArg Prod.fst (I.ht.one y (sub y hy) z zm (.inr h))).trans zr)
            have e2 := sv _ _ e (I.ht.nl y (sub y hy)).1 (ne_kin e ew (by simp [kin])) yz
            exact gk _ _ e2 (ne_kin e2 d3.hh (by simp [kin]))
        · obtain ⟨dy, fy, e⟩ := I.hw y hy
          by_cases q2 : y.a = x.a
          · exact ⟨dx, "undone", same y dy fy e q2⟩
          · exact ⟨dy, fy, go y dy fy e q2⟩
        · rcases List.mem_cons.mp hy with rfl | hy
          · exact ⟨dx, gk _ _ ew3 (ne_kin ew3 d3.hh (by simp [kin]))⟩
          · obtain ⟨dy, e⟩ := I.un y hy
            by_cases q2 : y.a = x.a
            · exact ⟨dx, same y dy _ e q2⟩
            · exact ⟨dy, go y dy _ e q2⟩
        · have zh := (mem_cut.mp zm).1
          have om : ofR m z.1 ≠ [] := fun h => List.filter_eq_nil_iff.mp h x xm (decide_eq_true zr.symm)
          exact gk _ _ (sv _ _ (I.out a u e n1 n2 n3 n4) n1 (n3 x xm) (n4 z zh om)) n2
      refine ⟨_, rfl, _, .inl ⟨_, SqL.of hz3, rfl⟩, ?_⟩
      by_cases e0 : ofR (l ++ m1') x.r = []
      · rw [show (!(refs (ofR (l ++ m1') x.r)).isEmpty) = false from by rw [e0]; rfl]
        refine iteT ?_
        refine ⟨_, rfl, d, c.D, p.dx, _, _, rfl, d3.hd, B.cD, B.nH, rfl, _, rfl, x.a, CW, dx, _, _, rfl, ew3, W.cW, W.nR, rfl, p.h, _, .inr x.r, rfl, d3.hh, rfl, ?_, ?_⟩
        · rw [valV_hd3, fz]
          rfl
        · rw [dropK_hd3, asc, heldCut_snoc xa e0]
          exact ⟨_, _, m1', x :: m2, (by rw [em]; simp), rfl, rfl, fin _ (fun a u e n => by rw [upd_ne n]; exact e) (Fr.at_ d3.fh) (d3.setHeld _)⟩
      · rw [show (!(refs (ofR (l ++ m1') x.r)).isEmpty) = true from by
          cases h : ofR (l ++ m1') x.r with
          | nil => exact absurd h e0
          | cons a b => rfl]
        rw [asc, heldCut_keep e0] at d3
        exact iteF ⟨_, _, m1', x :: m2, (by rw [em]; simp), rfl, rfl, fin _ (fun a u e n => e) (Fr.refl _ _) d3⟩
end
end IC
namespace IC
open PySem L2 TL
section
variable {P : Program} {w : World} {K : PySem.W.Frag} {mg : Str → Option Value} {base : Heap} {c : Cs} {CW EB EN ER EW EBM ENR : Addr}
theorem ok_keepH {f : Addr} {fd : FuncData} (F : Fun K "_keep" "Database._keep" s_Database__keep f fd) (B : DbTxt K mg c) (W : WTxt K c CW) : L2H.FnH P w K mg base CX0 1 f fd ["self", "transaction"] (spKeepG c CW) := by
  refine IC.Fun.okH F sc_Database__keep (fun vs H Q E h => ?_) (fun cdv A outer s H vs Q E pz hr hc h => ?_)
  · obtain ⟨d, t, p, uv, bl, made, held, kept, own, F, q, fv, rfl, _⟩ := h
    rfl
  · obtain ⟨d, t, p, uv, bl, made, held, kept, own, F, q, fv, rfl, db, ht, ho, hw, l1, l2, k⟩ := h
    have hu := huH hr
    refine ⟨_, (pss_one (L2H.ps_forH PassesOwn.never hc (pi_listH (pe_fld (pv 1) rfl)) (pg_name (i := 2) sc_Database__keep.nd rfl (Or.inl rfl))
  (pss_cons (ps_fld (pv 2) pe_str rfl)
  (pss_cons (ps_dput hu (pe_fld (pv 0) rfl) (pe_fld (pv 2) rfl) (pv 2) rfl)
  (pss_one (ps_expr (pe_dpop2 (pe_fld (pv 0) rfl) (pe_fld (pv 2) rfl) pe_non ⟨by rfl, by rfl, by rfl, by rfl⟩))))))), ?_⟩
    refine ⟨_, rfl, t, c.T, q.dx, _, _, rfl, ht, B.cT, B.nO, rfl, q.o, rfl, ⟨_, SqL.of ho⟩, for_list (K := K) (a := q.o) (xs := refs own) (fun i σ H' => ∃ wv, σ = [some (.ref d), some (.ref t), wv] ∧ KGv c CW H H' F d t p uv bl made held kept own (own.take i) q)
      ⟨none, rfl, Fr.refl _ _, by rw [List.take_zero, rest_nil]; exact db, ho, fun x hx => (hw x hx).1, nofun, fun _ _ e _ _ _ => e⟩ (fun i σ H' _ e => ?_) (fun i x σ H' hi e => ?_) (fun σ H' e => ?_)⟩
    · obtain ⟨wv, rfl, I⟩ := e
      exact SqL.of I.ho
    · obtain ⟨wv, rfl, I⟩ := e
      have hi2 : own[i]?.map (fun x => V.ref x.a) = some x := by rw [← List.getElem?_map]; exact hi
      obtain ⟨y, hy, rfl⟩ := Option.map_eq_some_iff.mp hi2
      have ym : y ∈ own := List.mem_of_getElem? hy
      obtain ⟨dx, ft, ew⟩ := I.hw y ym
      have fy := (hw y ym).2
      have tk : own.take (i + 1) = own.take i ++ [y] := by rw [List.take_add_one, hy]; rfl
      have lk : ((own.take i).foldl putW kept).length ≤ 1800 := by
        have a := len_fold (own.take i) kept
        have b : (own.take i).length ≤ own.length := by rw [List.length_take]; exact Nat.min_le_right _ _
        omega
      refine ⟨_, rfl, y.a, CW, dx, _, rfl, ew, W.cW, W.nF, (by show 4 < 1000; decide), ?_⟩
      have d1 := I.db.fate (f' := "kept") ew
      have w1 : ∀ x ∈ own, WAt CW (upd H' y.a (.ins CW dx (wrf y.r y.v (.ref t) (.str "kept")))) (.ref t) x := fun x hx => by
        obtain ⟨dx2, f2, e2⟩ := I.hw x hx
        by_cases q : x.a = y.a
        · rw [q, ew] at e2
          injection e2 with e2
          injection e2 with _ e3 e4
          simp only [List.cons.injEq, Prod.mk.injEq, V.str.injEq, true_and, and_true] at e4
          exact ⟨dx, "kept", by rw [q, upd_same, e4.1, e4.2.1]⟩
        · exact ⟨dx2, f2, by rw [upd_ne q]; exact e2⟩
      refine ⟨_, rfl, _, rfl, d, c.D, p.dx, _, _, rfl, d1.hd, B.cD, B.nK, rfl, _, rfl, y.a, CW, dx, _, _, rfl, upd_same, W.cW, W.nR, rfl, p.k, _, rfl, DPut.k (k := .inr y.r) d1.hk (Nat.lt_of_le_of_lt (show (kd ((own.take i).foldl putW kept)).length ≤ 1800 by rw [len_kd]; exact lk) (by decide)), ?_⟩
      have d2 := d1.setKept (x := y) (w1 y ym) fy
      have e5 : upd (upd H' y.a (.ins CW dx (wrf y.r y.v (.ref t) (.str "kept")))) p.k (.dK (putK (kd ((own.take i).foldl putW kept)) (.inr y.r) (.ref y.a))) y.a = some (.ins CW dx (wrf y.r y.v (.ref t) (.str "kept"))) := by
        rw [upd_ne (ne_kin upd_same d1.hk (by simp [kin])), upd_same]
      have sv : ∀ a o, H' a = some o → kin o ≠ 14 → kin o ≠ 3 → upd (upd H' y.a (.ins CW dx (wrf y.r y.v (.ref t) (.str "kept")))) p.k (.dK (putK (kd ((own.take i).foldl putW kept)) (.inr y.r) (.ref y.a))) a = some o := fun a o e n1 n2 => by
        rw [upd_ne (ne_kin e I.db.hk n2), upd_ne (ne_kin e ew n1)]
        exact e
      have w2 : ∀ x ∈ own, WAt CW (upd (upd H' y.a (.ins CW dx (wrf y.r y.v (.ref t) (.str "kept")))) p.k (.dK (putK (kd ((own.take i).foldl putW kept)) (.inr y.r) (.ref y.a)))) (.ref t) x := fun x hx => by
        obtain ⟨dx2, f2, e2⟩ := w1 x hx
        exact ⟨dx2, f2, by rw [upd_ne (ne_kin e2 d1.hk (by simp [kin]))]; exact e2⟩
      have dn2 : ∀ x ∈ own.take (i + 1), ∃ dz, upd (upd H' y.a (.ins CW dx (wrf y.r y.v (.ref t) (.str "kept")))) p.k (.dK (putK (kd ((own.take i).foldl putW kept)) (.inr y.r) (.ref y.a))) x.a = some (.ins CW dz (wrf x.r x.v (.ref t) (.str "kept"))) := fun x hx => by
        have xo : x ∈ own := List.mem_of_mem_take hx
        obtain ⟨dx2, f2, e2⟩ := I.hw x xo
        by_cases q : x.a = y.a
        · rw [q, ew] at e2
          injection e2 with e2
          injection e2 with _ e3 e4
          simp only [List.cons.injEq, Prod.mk.injEq, V.str.injEq, true_and, and_true] at e4
          exact ⟨dx, by rw [q, e5, e4.1, e4.2.1]⟩
        · rw [tk] at hx
          rcases List.mem_append.mp hx with hx | hx
          · obtain ⟨dx3, e3⟩ := I.dn x hx
            exact ⟨dx3, by rw [upd_ne (ne_kin e3 I.db.hk (by simp [kin])), upd_ne q]; exact e3⟩
          · rw [List.mem_singleton.mp hx] at q
            exact absurd rfl q
      have fr2 := I.fr.trans ((Fr.at_ (o := .ins CW dx (wrf y.r y.v (.ref t) (.str "kept"))) fy).trans (Fr.at_ (o := .dK (putK (kd ((own.take i).foldl putW kept)) (.inr y.r) (.ref y.a))) I.db.fk))
      have fold : (own.take (i + 1)).foldl putW kept = putW ((own.take i).foldl putW kept) y := by rw [tk, List.foldl_append]; rfl
      refine ⟨_, rfl, d, c.D, p.dx, _, _, rfl, d2.hd, B.cD, B.nH, rfl, p.h, rfl, .inl ⟨_, .inl d2.hh⟩, _, rfl, y.a, CW, dx, _, _, rfl, e5, W.cW, W.nR, rfl, _, .inr y.r, d2.hh, rfl, fun v _ => ?_, fun e6 => ?_⟩
      · rw [dropK_hd3, rest_snoc, ← tk]
        refine ⟨_, rfl, fr2.trans (Fr.at_ I.db.fh), ?_, ?_, fun x hx => ?_, fun x hx => ?_, fun b o e n1 n2 n3 => ?_⟩
        · rw [fold]
          exact d2.setHeld _
        · rw [upd_ne (ne_kin (sv _ _ I.ho (by simp [kin]) (by simp [kin])) d2.hh (by simp [kin]))]
          exact sv _ _ I.ho (by simp [kin]) (by simp [kin])
        · obtain ⟨dx2, f2, e2⟩ := w2 x hx
          exact ⟨dx2, f2, by rw [upd_ne (ne_kin e2 d2.hh (by simp [kin]))]; exact e2⟩
        · obtain ⟨dx2, e2⟩ := dn2 x hx
          exact ⟨dx2, by rw [upd_ne (ne_kin e2 d2.hh (by simp [kin]))]; exact e2⟩
        · rw [upd_ne n2, upd_ne n1, upd_ne (n3 y ym)]
          exact I.out b o e n1 n2 n3
      · have er : rest held (own.take (i + 1)) = rest held (own.take i) := by
          rw [tk, ← rest_snoc]
          refine List.filter_eq_self.mpr fun z hz => decide_eq_true fun q => ?_
          rw [valV_hd3, Option.map_eq_none_iff, List.find?_eq_none] at e6
          exact e6 z hz (decide_eq_true q)
        refine ⟨_, rfl, fr2, ?_, sv _ _ I.ho (by simp [kin]) (by simp [kin]), w2, dn2, fun b o e n1 n2 n3 => ?_⟩
        · rw [fold, er]
          exact d2
        · rw [upd_ne n1, upd_ne (n3 y ym)]
          exact I.out b o e n1 n2 n3
    · obtain ⟨wv, rfl, I⟩ := e
      have e1 : own.take (refs own).length = own := by
        unfold refs
        rw [List.length_map, List.take_length]
      rw [e1] at I
      exact k _ I
end
end IC
namespace IC
open PySem L2 TL
section
variable {P : Program} {w : World} {K : PySem.W.Frag} {mg : Str → Option Value} {base : Heap} {c : Cs} {CW EB EN ER EW EBM ENR : Addr}
theorem ok_end_levelH {f : Addr} {fd : FuncData} (F : Fun K "_end_level" "Database._end_level" s_Database__end_level f fd) (B : DbTxt K mg c) (M_keep : MDfH P w K mg base 1 c.D "_keep" ["self", "transaction"] (spKeepG c CW)) (M_undo : MDfH P w K mg base 1 c.D "_undo" ["self", "transaction", "start"] (spUndoG c CW)) :
    L2H.FnH P w K mg base CX0 2 f fd ["self", "transaction", "error", "commits"] (spEndLG c CW) := by
  refine IC.Fun.okH F sc_Database__end_level (fun vs H Q E h => ?_) (fun cdv A outer s H vs Q E pz hr hc h => ?_)
  · obtain ⟨d, p, uv, bl, made, held, kept, F, T, l, e, err, goes, rfl, _⟩ := h
    rfl
  · obtain ⟨d, p, uv, bl, made, held, kept, F, T, l, e, err, goes, rfl, db, tr, eTe, hh, nzs, l1, l2, l3, k⟩ := h
    refine ⟨_, (pss_cons (ps_set (i := 4) sc_Database__end_level.nd rfl (Or.inl rfl) (pe_bm0 PySem.F.plainAttrs_list PySem.F.slot_list_pop PySem.F.type_list_pop mt_pop (pe_fld (pv 1) rfl)))
  (pss_cons (ps_set (i := 5) sc_Database__end_level.nd rfl (Or.inl rfl) (pe_fld (pv 1) rfl))
  (pss_cons (ps_fld (pv 1) pe_non rfl)
  (pss_cons (ps_if (PW.pt (pw_or (pt_cmpR op_notN (pv 2) pe_non (nomark _)) (pw_or1 (pt_cmpR op_notN (pv 5) pe_non (nomark _)))))
  (pss_cons (ps_expr (pe_mdH M_undo B.cD hc hr (by decide) (pv 0) (pa_cons (pv 1) (pa_cons (pv 4) pa_nil))))
  (pss_one (ps_ret (pe_ifExp (pt_cmpR op_notN (pv 2) pe_non (nomark _)) pe_str pe_str))))
  pss_nil)
  (pss_cons (ps_if (pt_truth (pe_fld (pv 1) rfl) (by intro _; rfl))
  (pss_one (ps_ret pe_str))
  pss_nil)
  (pss_cons (ps_if (pt_not (pt_val (pv 3)))
  (pss_cons (ps_expr (pe_mdH M_undo B.cD hc hr (by decide) (pv 0) (pa_cons (pv 1) (pa_cons (pv 4) pa_nil))))
  (pss_one (ps_ret pe_str)))
  pss_nil)
  (pss_cons (ps_expr (pe_mdH M_keep B.cD hc hr (by decide) (pv 0) (pa_cons (pv 1) pa_nil)))
  (pss_one (ps_ret pe_str))))))))), ?_⟩
    have st : T.e.starts.map (fun n : Nat => V.int (n : Int)) = e.starts.map (fun n : Nat => V.int (n : Int)) ++ [V.int (e.own.length : Int)] := by
      rw [eTe, show En.starts (l :: e) = e.starts ++ [e.own.length] from rfl, List.map_append]
      rfl
    have hs := tr.hs
    rw [st] at hs
    have ow : T.e.own = e.own ++ l.ws := by rw [eTe, own_cons]
    have wy : T.e.why = l.why := by rw [eTe]; rfl
    refine ⟨_, rfl, T.t, c.T, T.q.dx, _, _, rfl, tr.ht, B.cT, B.nS, rfl, .inl ⟨rfl, _, SqL.of hs⟩, T.q.s, _, .int e.own.length, rfl, rfl, hs, ?_, ?_⟩
    · rw [List.length_append, List.length_singleton, Nat.add_sub_cancel, List.getElem?_append_right (Nat.le_refl _), Nat.sub_self]
      rfl
    rw [List.dropLast_concat]
    have d1 := db.offL (o := .lst (e.starts.map fun n : Nat => V.int (n : Int))) tr.hs tr.nsb.symm tr.nsm.symm
    have t1 : upd H T.q.s (.lst (e.starts.map fun n : Nat => V.int (n : Int))) T.t = some (.ins c.T T.q.dx (trf T.q.o T.q.s (oV T.e.why))) := by
      rw [upd_ne (ne_kin tr.ht tr.hs (by simp [kin]))]
      exact tr.ht
    refine ⟨_, rfl, T.t, c.T, T.q.dx, _, _, rfl, t1, B.cT, B.n1, rfl, ?_⟩
    refine ⟨_, rfl, T.t, c.T, T.q.dx, _, rfl, t1, B.cT, B.n1, (by show 3 < 1000; decide), ?_⟩
    have d2 := d1.offT (o := .ins c.T T.q.dx (trf T.q.o T.q.s .non)) t1
    have s2 : upd (upd H T.q.s (.lst (e.starts.map fun n : Nat => V.int (n : Int)))) T.t (.ins c.T T.q.dx (trf T.q.o T.q.s .non)) T.q.s = some (.lst (e.starts.map fun n : Nat => V.int (n : Int))) := by
      rw [upd_ne (ne_kin tr.hs tr.ht (by simp [kin])), upd_same]
    have nn : ∀ a o, H a = some o → a ≠ T.q.s → a ≠ T.t → upd (upd H T.q.s (.lst (e.starts.map fun n : Nat => V.int (n : Int)))) T.t (.ins c.T T.q.dx (trf T.q.o T.q.s .non)) a = some o := fun a o e n1 n2 => by
      rw [upd_ne n2, upd_ne n1]
      exact e
    have t2 := (upd_same : upd (upd H T.q.s (.lst (e.starts.map fun n : Nat => V.int (n : Int)))) T.t (.ins c.T T.q.dx (trf T.q.o T.q.s .non)) T.t = _)
    have fr2 : Fr F F H (upd (upd H T.q.s (.lst (e.starts.map fun n : Nat => V.int (n : Int)))) T.t (.ins c.T T.q.dx (trf T.q.o T.q.s .non))) := (Fr.at_ tr.fs).trans (Fr.at_ tr.ft)
    have k := k _ fr2 d2 nn s2 t2
    have o2 := nn _ _ tr.ho tr.nos (ne_kin tr.ho tr.ht (by simp [kin]))
    have w2 : ∀ x ∈ T.e.own, WAt CW (upd (upd H T.q.s (.lst (e.starts.map fun n : Nat => V.int (n : Int)))) T.t (.ins c.T T.q.dx (trf T.q.o T.q.s .non))) (.ref T.t) x ∧ F x.a := fun x hx => by
      obtain ⟨dx, f, q⟩ := tr.hw x hx
      exact ⟨⟨dx, f, nn _ _ q (ne_kin q tr.hs (by simp [kin])) (ne_kin q tr.ht (by simp [kin]))⟩, tr.fw x hx⟩
    have h2 : HT (upd (upd H T.q.s (.lst (e.starts.map fun n : Nat => V.int (n : Int)))) T.t (.ins c.T T.q.dx (trf T.q.o T.q.s .non))) F p T.q.o held T.e.own := ⟨hh.all, fun z hz n => nn _ _ (hh.hl z hz n) (nzs z hz) (ne_kin (hh.hl z hz n) tr.ht (by simp [kin])), hh.one, hh.nl, hh.fl⟩
    rw [wy]
    rw [ow] at o2 h2 w2
    cases err with
    | some u =>
      refine ⟨_, rfl, rfl, _, rfl, iteT (iteT ?_)⟩
      exact ⟨_, rfl, d, p.dx, _, rfl, d2.hd, rfl, _, rfl, _, rfl, d, T.t, p, uv, bl, made, held, kept, e.own, l.ws, F, T.q, .non, rfl, d2, t2, o2, tr.fo, tr.nob, tr.nom, w2, h2, fun H' U => ⟨_, rfl, rfl, _, rfl, iteT (k H' U)⟩⟩
    | none =>
      refine ⟨_, rfl, rfl, _, rfl, iteF ?_⟩
      cases hw : l.why with
      | some u =>
        unfold endO at k
        rw [hw] at k
        refine ⟨_, rfl, rfl, _, rfl, iteT ?_⟩
        exact ⟨_, rfl, d, p.dx, _, rfl, d2.hd, rfl, _, rfl, _, rfl, d, T.t, p, uv, bl, made, held, kept, e.own, l.ws, F, T.q, .non, rfl, d2, t2, o2, tr.fo, tr.nob, tr.nom, w2, h2, fun H' U => ⟨_, rfl, rfl, _, rfl, iteF (k H' U)⟩⟩
      | none =>
        unfold endO at k
        rw [hw] at k
        refine ⟨_, rfl, rfl, _, rfl, iteF ?_⟩
        refine ⟨_, rfl, T.t, c.T, T.q.dx, _, _, rfl, t2, B.cT, B.nS, rfl, _, .inl ⟨_, SqL.of s2, rfl⟩, ?_⟩
        cases e with
        | cons l2 e2 =>
          rw [show (!(List.map (fun n : Nat => V.int (n : Int)) (En.starts (l2 :: e2))).isEmpty) = true from by
            rw [show En.starts (l2 :: e2) = En.starts e2 ++ [(En.own e2).length] from rfl, List.map_append]
            cases List.map (fun n : Nat => V.int (n : Int)) (En.starts e2) <;> rfl]
          exact iteT k
        | nil =>
          refine iteF ?_
          cases goes with
          | false =>
            refine ⟨_, rfl, false, rfl, iteT ?_⟩
            exact ⟨_, rfl, d, p.dx, _, rfl, d2.hd, rfl, _, rfl, _, rfl, d, T.t, p, uv, bl, made, held, kept, [], l.ws, F, T.q, .non, rfl, d2, t2, o2, tr.fo, tr.nob, tr.nom, w2, h2, fun H' U => k H' U⟩
          | true =>
            refine ⟨_, rfl, true, rfl, iteF ?_⟩
            rw [← ow] at o2 w2
            exact ⟨_, rfl, d, p.dx, _, rfl, d2.hd, rfl, _, rfl, d, T.t, p, uv, bl, made, held, kept, T.e.own, F, T.q, .non, rfl, d2, t2, o2, w2, l1, by omega, fun H' U => k H' U⟩
end
end IC
namespace IC
open PySem L2 TL
section
variable {P : Program} {w : World} {K : PySem.W.Frag} {mg : Str → Option Value} {base : Heap} {c : Cs} {CW EB EN ER EW EBM ENR : Addr}
theorem ok_end_blockH {f : Addr} {fd : FuncData} (F : Fun K "_end_block" "Database._end_block" s_Database__end_block f fd) (B : DbTxt K mg c) (M_tdoom : MDfH P w K mg base 1 c.T "doom" ["self", "first"] (spTrDoomG c))
    (M_end_level : MDfH P w K mg base 2 c.D "_end_level" ["self", "transaction", "error", "commits"] (spEndLG c CW)) : L2H.FnH P w K mg base CX0 3 f fd ["self", "error", "commits"] (spEndBG c CW) := by
  refine IC.Fun.okH F sc_Database__end_block (fun vs H Q E h => ?_) (fun cdv A outer s H vs Q E pz hr hc h => ?_)
  · obtain ⟨S, F, err, goes, rfl, _⟩ := h
    rfl
  · obtain ⟨S, F, err, goes, rfl, hd, sz, ns, k⟩ := h
    refine ⟨_, (pss_cons (ps_asg (pe_bm0 PySem.F.plainAttrs_list PySem.F.slot_list_pop PySem.F.type_list_pop mt_pop (pe_fld (pv 0) rfl)) (pg_tupH hc (pgs_cons (pg_name (i := 3) sc_Database__end_block.nd rfl (Or.inl rfl)) (pgs_cons (pg_name (i := 4) sc_Database__end_block.nd rfl (Or.inl rfl)) pgs_nil))))
  (pss_cons (ps_set (i := 5) sc_Database__end_block.nd rfl (Or.inl rfl) (pe_fld (pv 0) rfl))
  (pss_cons (ps_fld (pv 0) (pv 4) rfl)
  (pss_cons (ps_if (pt_cmpR op_eq (pv 3) (pe_gv B.gE rfl) (nomark _))
  (pss_one (ps_ret (pe_mdH M_end_level B.cD hc hr (by decide) (pv 0) (pa_cons (pv 5) (pa_cons (pv 1) (pa_cons (pv 2) pa_nil))))))
  pss_nil)
  (pss_cons (ps_if (PW.pt (pw_and (pt_cmpR op_eq (pv 3) (pe_gv B.gD rfl) (nomark _)) (pw_and1 (pt_cmpR op_notN (pv 1) pe_non (nomark _)))))
  (pss_one (ps_expr (pe_mdH M_tdoom B.cT hc hr (by decide) (pv 5) (pa_cons (pv 1) pa_nil))))
  pss_nil)
  (pss_one (ps_ret pe_str))))))), ?_⟩
    have hdb := hd.db
    have bk := hd.bk
    have wf := hd.wf
    cases hbk : blkOf S.sorts (vT S.top :: S.sus.map vT) with
    | nil =>
      cases es : S.sorts with
      | nil => exact absurd es ns
      | cons o s =>
        rw [es] at hbk
        cases o <;> cases hbk
    | cons z m =>
    rw [hbk] at bk
    rcases List.eq_nil_or_concat S.bl with eb | ⟨bl, y, eb⟩
    · rw [eb] at bk
      exact bk.elim
    rw [List.concat_eq_append] at eb
    rw [eb, List.reverse_append] at bk
    obtain ⟨⟨hy, fy⟩, bk'⟩ := bk
    have hb := hdb.hb
    rw [eb, List.map_append] at hb
    refine ⟨_, rfl, S.d, c.D, S.p.dx, _, _, rfl, hdb.hd, B.cD, B.nB, rfl, .inl ⟨rfl, _, SqL.of hb⟩, S.p.b, _, .ref y, rfl, rfl, hb, ?_, ?_⟩
    · rw [List.length_append, List.map_cons, List.map_nil, List.length_singleton, Nat.add_sub_cancel, List.getElem?_append_right (Nat.le_refl _), Nat.sub_self]
      rfl
    rw [List.map_cons, List.map_nil, List.dropLast_concat]
    refine ⟨y, _, rfl, SqT.of (by rw [upd_ne (ne_kin hy hdb.hb (by simp [kin]))]; exact hy), rfl, _, _, rfl, _, _, rfl, rfl, ?_⟩
    have d1 := hdb.setBl bl
    refine ⟨_, rfl, S.d, c.D, S.p.dx, _, _, rfl, d1.hd, B.cD, B.nP, rfl, ?_⟩
    refine ⟨_, rfl, _, rfl, S.d, c.D, S.p.dx, _, rfl, d1.hd, B.cD, B.nP, (by show 6 < 1000; decide), ?_⟩
    obtain ⟨H1, eH⟩ : ∃ H1, upd (upd H S.p.b (.lst (bl.map V.ref))) S.d (.ins c.D S.p.dx (putF "_present" z.2 (dbf (vT S.top) S.p.fl S.p.b S.p.m S.p.h S.p.k))) = H1 := ⟨_, rfl⟩
    rw [eH]
    have d2 : D3 c CW H1 F S.d S.p z.2 bl S.made S.held S.kept := by rw [← eH]; exact d1.setPv z.2
    have kp1 : ∀ b o, H b = some o → b ≠ S.d → b ≠ S.p.b → H1 b = some o := fun b o e n1 n2 => by
      rw [← eH, upd_ne n1, upd_ne n2]
      exact e
    have fr1 : Fr F F H H1 := by rw [← eH]; exact (Fr.at_ hdb.fb).trans (Fr.at_ hdb.fd)
    clear eH
    have lb : bl.length + 1 = S.bl.length := by rw [eb, List.length_append]; rfl
    refine ⟨_, rfl, rfl, _, rfl, ?_⟩
    have ft0 : ∀ {G : Hp}, (∀ b o, H b = some o → kin o = 14 → G b = some o) → FtR CW H G F S.made [] [] := fun kq W hW => by
      rw [fateOf_nil, fateOf_nil]
      exact hW.st kq fun _ z => z
    have st1 : Wst H H1 := fun b o e kq => kp1 b o e (ne14 e kq hdb.hd) (ne14 e kq hdb.hb)
    cases es : S.sorts with
    | nil => exact absurd es ns
    | cons o s =>
    rw [es] at hbk wf
    have k' := k
    unfold LvR at k'
    rw [es] at k'
    cases o with
    | plain =>
      injection hbk with e1 e2
      subst e1
      have tn : S.top = none := by
        cases et : S.top with
        | none => rfl
        | some T =>
          rw [et] at wf
          have wf : Wf (.plain :: s) (T.e :: _) := wf
          cases ee : T.e with
          | nil => exact absurd ee (hd.tr T (SG.topMem et)).ne
          | cons l r =>
            rw [ee] at wf
            exact wf.elim
      refine iteF ⟨_, rfl, rfl, _, rfl, iteF (iteF ?_)⟩
      exact k' H1 { S with bl := bl, sorts := s } "" [] [] fr1 (hd.leavePlain es eb kp1 (by rw [tn]; exact d2)) ⟨rfl, rfl, rfl, lb, rfl, Nat.le_refl _⟩ ⟨rfl, tn, tn, rfl, rfl, rfl, rfl⟩ (ft0 st1)
    | outside =>
      injection hbk with e1 e2
      subst e1
      have tn : eT S.top = [] ∧ ∃ T r, S.sus = some T :: r := by
        cases q : eT S.top with
        | cons l e => rw [q] at wf; exact wf.elim
        | nil =>
          rw [q] at wf
          cases q2 : S.sus with
          | nil => rw [q2] at wf; exact wf.elim
          | cons u r =>
            rw [q2] at wf
            cases u with
            | none => exact wf.elim
            | some T => exact ⟨rfl, T, r, rfl⟩
      obtain ⟨tn, T, r, eu⟩ := tn
      have tn := hd.none_top tn
      rw [eu] at d2
      refine iteF ⟨_, rfl, rfl, _, rfl, iteF (iteF ?_)⟩
      exact k' H1 { S with bl := bl, sorts := s, top := some T, sus := r } "" [] [] fr1 (hd.leaveOutside tn es eb eu kp1 d2) ⟨rfl, rfl, rfl, lb, rfl, Nat.le_refl _⟩ ⟨rfl, tn, ⟨T, eu, rfl⟩, rfl, rfl, rfl⟩ (ft0 st1)
    | joined =>
      injection hbk with e1 e2
      subst e1
      have hne : ∃ T, S.top = some T := by
        cases et : S.top with
        | some T => exact ⟨T, rfl⟩
        | none => rw [et] at wf; exact wf.elim
      obtain ⟨T, et⟩ := hne
      have hT := SG.topMem et
      have tT := hd.tr T hT
      have t1 := tT.far hdb (fun _ z => z) kp1
      rw [et] at d2 wf e2 ⊢
      have wf' : Wf s (T.e :: S.sus.map eT) := by
        cases ee : T.e with
        | nil => exact absurd ee tT.ne
        | cons l e =>
          have wf : Wf (.joined :: s) (T.e :: S.sus.map eT) := wf
          rw [ee] at wf
          exact wf
      have bk2 : BkR H F bl.reverse (blkOf s (.ref T.t :: S.sus.map vT)) := by
        have e2 : blkOf s (.ref T.t :: S.sus.map vT) = m := e2
        rw [e2]
        exact bk'
      refine iteF ⟨_, rfl, rfl, _, rfl, iteT ?_⟩
      cases err with
      | none =>
        refine ⟨_, rfl, rfl, _, rfl, iteF ?_⟩
        refine k' H1 { S with bl := bl, sorts := s } "" [] [] fr1 (hd.re rfl rfl rfl (fun _ z => z) kp1 (by rw [et]; exact d2) ?_ (by rw [et]; exact wf')) ⟨rfl, rfl, rfl, lb, rfl, Nat.le_refl _⟩ ⟨rfl, rfl, ⟨T, et, et⟩, rfl, rfl, rfl⟩ (ft0 st1)
        rw [et]
        exact bk2.mv (fun x xs _ e => kp1 _ _ e (ne_kin e hdb.hd (by simp [kin])) (ne_kin e hdb.hb (by simp [kin]))) fun _ z => z
      | some w =>
        refine ⟨_, rfl, rfl, _, rfl, iteT ?_⟩
        refine ⟨_, rfl, T.t, T.q.dx, _, rfl, t1.ht, rfl, _, rfl, T.t, T.q, T.e.why, w, rfl, t1.ht, fun H2 kp2 e2' => ?_⟩
        have kp2' : ∀ b o, H1 b = some o → b ≠ T.t → H2 b = some o := fun b o e n => kp2 b o e (by simpa using n)
        have d3 : D3 c CW H2 F S.d S.p (.ref T.t) bl S.made S.held S.kept := by
          have go : ∀ {b : Addr} {o : HO}, H1 b = some o → kin o ≠ 13 → H2 b = some o := fun {b o} q n => kp2' _ _ q (ne_kin q t1.ht (by simpa [kin] using n))
          exact ⟨go d2.hd (by simp [kin]), go d2.hb (by simp [kin]), go d2.hm (by simp [kin]), go d2.hh (by simp [kin]), go d2.hk (by simp [kin]), fun x hx => let ⟨v, dx, f, q⟩ := d2.hw x hx; ⟨v, dx, f, go q (by simp [kin])⟩, d2.nbm, d2.nhk, d2.fd, d2.fb, d2.fm, d2.fh, d2.fk, d2.fw⟩
        have kpA : ∀ b o, H b = some o → b ≠ S.d → b ≠ S.p.b → b ≠ T.t → H2 b = some o := fun b o e n1 n2 n3 => kp2' b o (kp1 b o e n1 n2) n3
        have fr2 : Fr F F H1 H2 := ⟨fun x o e n => kp2' x o e fun q => n (by rw [q]; exact tT.ft), fun _ z => z, fun _ z => .inl z⟩
        have t2 : TrG c CW H2 F S.p ⟨T.t, T.q, doomTop w T.e⟩ := by
          refine ⟨?_, ?_, ?_, ?_, fun x hx => ?_, ?_, tT.nos, tT.nob, tT.nom, tT.nsb, tT.nsm, tT.ft, tT.fo, tT.fs, fun x hx => ?_⟩
          · show doomTop w T.e ≠ []
            cases ee : T.e with
            | nil => exact absurd ee tT.ne
            | cons l e => intro q; cases q
          · show H2 T.t = some (.ins c.T T.q.dx (trf T.q.o T.q.s (oV (En.why (doomTop w T.e)))))
            rw [doomTop_why w tT.ne]
            exact e2'
          · show H2 T.q.o = some (.lst (refs (En.own (doomTop w T.e))))
            rw [doomTop_own]
            exact kp2' _ _ t1.ho (ne_kin t1.ho t1.ht (by simp [kin]))
          · show H2 T.q.s = some (.lst ((En.starts (doomTop w T.e)).map fun n : Nat => V.int (n : Int)))
            rw [doomTop_starts]
            exact kp2' _ _ t1.hs (ne_kin t1.hs t1.ht (by simp [kin]))
          · have hx : x ∈ En.own (doomTop w T.e) := hx
            rw [doomTop_own] at hx
            obtain ⟨dx, f, q⟩ := t1.hw x hx
            exact ⟨dx, f, kp2' _ _ q (ne_kin q t1.ht (by simp [kin]))⟩
          · show ∀ l ∈ (doomTop w T.e).tail, l.why = none
            rw [doomTop_tail]
            exact tT.low
          · have hx : x ∈ En.own (doomTop w T.e) := hx
            rw [doomTop_own] at hx
            exact tT.fw x hx
        refine k' H2 { S with bl := bl, sorts := s, top := some ⟨T.t, T.q, doomTop w T.e⟩ } "" [] [] (fr1.trans fr2) (hd.topRe (T' := ⟨T.t, T.q, doomTop w T.e⟩) et rfl rfl rfl (doomTop_own w T.e) rfl rfl rfl (fun _ z => z) (fun b o e n1 n2 n3 _ => kpA b o e n1 n2 n3) t2 d3 ?_ ?_) ⟨rfl, rfl, rfl, lb, rfl, Nat.le_refl _⟩ ⟨rfl, rfl, ⟨T, et, rfl⟩, rfl, rfl, rfl⟩ (ft0 fun b o e kq => kpA b o e (ne14 e kq hdb.hd) (ne14 e kq hdb.hb) (ne14 e kq tT.ht))
        · exact bk2.mv (fun x xs _ e => kpA _ _ e (ne_kin e hdb.hd (by simp [kin])) (ne_kin e hdb.hb (by simp [kin])) (ne_kin e tT.ht (by simp [kin]))) fun _ z => z
        · show Wf s (doomTop w T.e :: S.sus.map eT)
          exact wf_doom wf'
    | level =>
      injection hbk with e1 e2
      subst e1
      obtain ⟨T, l, l2, e, et, eTe, wf'⟩ : ∃ T l l2 e, S.top = some T ∧ T.e = l :: l2 :: e ∧ Wf s ((l2 :: e) :: S.sus.map eT) := by
        cases q : eT S.top with
        | nil => rw [q] at wf; exact wf.elim
        | cons l e0 =>
          rw [q] at wf
          cases e0 with
          | nil => exact wf.elim
          | cons l2 e =>
            obtain ⟨T, et, eTe⟩ := some_top q (by simp)
            exact ⟨T, l, l2, e, et, eTe, wf⟩
      have hT := SG.topMem et
      have tT := hd.tr T hT
      have t1 := tT.far hdb (fun _ z => z) kp1
      rw [et] at d2 e2 ⊢
      have bk2 : BkR H F bl.reverse (blkOf s (.ref T.t :: S.sus.map vT)) := by
        have e2 : blkOf s (.ref T.t :: S.sus.map vT) = m := e2
        rw [e2]
        exact bk'
      have ht1 : HT H1 F S.p T.q.o S.held T.e.own := ⟨hd.all T hT, fun z hz n => kp1 _ _ (hd.hl T hT z hz n) (ne_kin (hd.hl T hT z hz n) hdb.hd (by simp [kin])) (hd.nl z hz).1, hd.one, fun z hz => ⟨((hd.nl z hz).2.2 T hT).1, (hd.nl z hz).1, (hd.nl z hz).2.1⟩, hd.fl⟩
      have zT := sz.2.2.2.2 T hT
      have zk := sz.2.2.2.1
      have ow : T.e.own = En.own (l2 :: e) ++ l.ws := by rw [eTe, own_cons]
      have l2w : l2.why = none := tT.low l2 (by rw [eTe]; exact List.mem_cons_self)
      have nzo : ∀ z ∈ S.held, ofR l.ws z.1 ≠ [] → ofR T.e.own z.1 ≠ [] := fun z hz n q => by
        rw [ow, ofR_app] at q
        exact n (List.append_eq_nil_iff.mp q).2
      refine iteT ⟨_, rfl, S.d, S.p.dx, _, rfl, d2.hd, rfl, _, rfl, _, rfl, _, rfl, S.d, S.p, _, bl, S.made, S.held, S.kept, F, T, l, l2 :: e, err, goes, rfl, d2, t1, eTe, ht1, (fun z hz => ((hd.nl z hz).2.2 T hT).2), zT.1, zk, zT.2, fun H2 fr2 d3 nn s2 t2 => ?_⟩
      have undo : ∀ r : Str, (err.isSome || l.why.isSome) = true → r = (if err.isSome = true then "" else "doomed") → ∀ H', UInv c CW H2 H' F S.d T.t S.p (.ref T.t) bl S.made S.held S.kept (En.own (l2 :: e)) l.ws [] l.ws T.q.o → Q (.str r) H' := by
        intro r c1 er H' U
        have kpA : ∀ b o, H b = some o → b ≠ S.d → b ≠ S.p.b → b ≠ S.p.h → b ≠ T.t → b ≠ T.q.s → b ≠ T.q.o → (∀ x ∈ l.ws, b ≠ x.a) → (∀ z ∈ S.held, ofR l.ws z.1 ≠ [] → b ≠ z.2) → H' b = some o := fun b o e n1 n2 n3 n4 n5 n6 n7 n8 => U.out b o (nn b o (kp1 b o e n1 n2) n5 n4) n6 n3 n7 n8
        have wl : ∀ x ∈ l.ws, WAt CW H (.ref T.t) x := fun x hx => tT.hw x (by rw [ow]; exact List.mem_append_right _ hx)
        have ht' := U.ht
        have ho' := U.ho
        have db' := U.db
        rw [List.append_nil] at ht' ho' db'
        have tn : TrG c CW H' F S.p ⟨T.t, T.q, l2 :: e⟩ := by
          refine ⟨by simp, ?_, ho', ?_, fun x hx => U.hw x (List.mem_append_left _ hx), fun l0 h0 => tT.low l0 (by rw [eTe]; exact List.mem_cons_of_mem _ h0), tT.nos, tT.nob, tT.nom, tT.nsb, tT.nsm, tT.ft, tT.fo, tT.fs, fun x hx => tT.fw x (by rw [ow]; exact List.mem_append_left _ hx)⟩
          · show H' T.t = some (.ins c.T T.q.dx (trf T.q.o T.q.s (oV l2.why)))
            rw [l2w]
            refine U.out _ _ t2 (ne_kin tT.ht tT.ho (by simp [kin])) (ne_kin tT.ht hdb.hh (by simp [kin])) (fun x hx => ?_) fun z hz n => ne_kin tT.ht (hd.hl T hT z hz (nzo z hz n)) (by simp [kin])
            obtain ⟨dx, f, q⟩ := wl x hx
            exact ne_kin tT.ht q (by simp [kin])
          · refine U.out _ _ s2 tT.nos.symm (ne_kin tT.hs hdb.hh (by simp [kin])) (fun x hx => ?_) fun z hz n => ((hd.nl z hz).2.2 T hT).2.symm
            obtain ⟨dx, f, q⟩ := wl x hx
            exact ne_kin tT.hs q (by simp [kin])
        refine k' H' { S with bl := bl, sorts := s, top := some ⟨T.t, T.q, l2 :: e⟩, held := heldCut S.held (En.own (l2 :: e) ++ l.ws) (En.own (l2 :: e)) } r [] l.ws (fr1.trans (fr2.trans U.fr))
          (hd.cut (T' := ⟨T.t, T.q, l2 :: e⟩) et ow rfl rfl rfl rfl rfl rfl rfl (fun _ z => z) kpA tn ht' db' ?_ wf') ⟨rfl, rfl, rfl, lb, rfl, len_cut ..⟩ ⟨T, l, l2, e, et, eTe, rfl, rfl, .inl ⟨c1, rfl, rfl, rfl, er⟩⟩ fun W hW => ?_
        · refine bk2.mv (fun x xs _ e => kpA _ _ e (ne_kin e hdb.hd (by simp [kin])) (ne_kin e hdb.hb (by simp [kin])) (ne_kin e hdb.hh (by simp [kin])) (ne_kin e tT.ht (by simp [kin])) (ne_kin e tT.hs (by simp [kin])) (ne_kin e tT.ho (by simp [kin])) (fun y hy => ?_) fun z hz n => ne_kin e (hd.hl T hT z hz (nzo z hz n)) (by simp [kin])) fun _ z => z
          obtain ⟨dx, f, q⟩ := wl y hy
          exact ne_kin e q (by simp [kin])
        · rw [fateOf_nil]
          refine hW.fate (fun b o e kq n => kpA b o e (ne14 e kq hdb.hd) (ne14 e kq hdb.hb) (ne14 e kq hdb.hh) (ne14 e kq tT.ht) (ne14 e kq tT.hs) (ne14 e kq tT.ho) n fun z hz n => ne14 e kq (hd.hl T hT z hz (nzo z hz n))) (fun x hx => ⟨_, wl x hx⟩) (fun x hx => ?_) fun _ z => z
          obtain ⟨dx, q⟩ := U.un x hx
          exact ⟨dx, _, q⟩
      cases err with
      | some u => exact fun H' U => undo "" rfl rfl H' U
      | none =>
        cases hw : l.why with
        | some u =>
          unfold endO
          rw [hw]
          exact fun H' U => undo "doomed" (by rw [hw]; rfl) rfl H' U
        | none =>
          unfold endO
          rw [hw]
          show Q (.str "") H2
          have kpA : ∀ b o, H b = some o → b ≠ S.d → b ≠ S.p.b → b ≠ T.t → b ≠ T.q.s → H2 b = some o := fun b o e n1 n2 n3 n4 => nn b o (kp1 b o e n1 n2) n4 n3
          have own2 : En.own (⟨l2.why, l2.ws ++ l.ws⟩ :: e) = T.e.own := by rw [own_merge, eTe]
          have tn : TrG c CW H2 F S.p ⟨T.t, T.q, ⟨l2.why, l2.ws ++ l.ws⟩ :: e⟩ := by
            refine ⟨by simp, ?_, ?_, s2, fun x hx => ?_, fun l0 h0 => tT.low l0 (by rw [eTe]; exact List.mem_cons_of_mem _ h0), tT.nos, tT.nob, tT.nom, tT.nsb, tT.nsm, tT.ft, tT.fo, tT.fs, fun x hx => tT.fw x (by rw [← own2]; exact hx)⟩
            · show H2 T.t = some (.ins c.T T.q.dx (trf T.q.o T.q.s (oV l2.why)))
              rw [l2w]
              exact t2
            · show H2 T.q.o = some (.lst (refs (En.own (⟨l2.why, l2.ws ++ l.ws⟩ :: e))))
              rw [own2]
              exact kpA _ _ tT.ho (ne_kin tT.ho hdb.hd (by simp [kin])) tT.nob (ne_kin tT.ho tT.ht (by simp [kin])) tT.nos
            · have hx : x ∈ En.own (⟨l2.why, l2.ws ++ l.ws⟩ :: e) := hx
              rw [own2] at hx
              obtain ⟨dx, f, q⟩ := tT.hw x hx
              exact ⟨dx, f, kpA _ _ q (ne14 q rfl hdb.hd) (ne14 q rfl hdb.hb) (ne14 q rfl tT.ht) (ne14 q rfl tT.hs)⟩
          refine k' H2 { S with bl := bl, sorts := s, top := some ⟨T.t, T.q, ⟨l2.why, l2.ws ++ l.ws⟩ :: e⟩ } "" [] [] (fr1.trans fr2) (hd.topRe (T' := ⟨T.t, T.q, ⟨l2.why, l2.ws ++ l.ws⟩ :: e⟩) et rfl rfl rfl own2 rfl rfl rfl (fun _ z => z) kpA tn d3 ?_ (wf_top wf')) ⟨rfl, rfl, rfl, lb, rfl, Nat.le_refl _⟩ ⟨T, l, l2, e, et, eTe, rfl, rfl, .inr ⟨rfl, hw, rfl, rfl, rfl, rfl⟩⟩
            (ft0 fun b o e kq => kpA b o e (ne14 e kq hdb.hd) (ne14 e kq hdb.hb) (ne14 e kq tT.ht) (ne14 e kq tT.hs))
          exact bk2.mv (fun x xs _ e => kpA _ _ e (ne_kin e hdb.hd (by simp [kin])) (ne_kin e hdb.hb (by simp [kin])) (ne_kin e tT.ht (by simp [kin])) (ne_kin e tT.hs (by simp [kin]))) fun _ z => z
    | base =>
      injection hbk with e1 e2
      subst e1
      obtain ⟨T, l, et, eTe, u, r, eu, wf'⟩ : ∃ T l, S.top = some T ∧ T.e = [l] ∧ ∃ u r, S.sus = u :: r ∧ Wf s (eT u :: r.map eT) := by
        cases q : eT S.top with
        | nil => rw [q] at wf; exact wf.elim
        | cons l e0 =>
          rw [q] at wf
          cases e0 with
          | cons l2 e => exact wf.elim
          | nil =>
            obtain ⟨T, et, eTe⟩ := some_top q (by simp)
            have wf : Wf s (S.sus.map eT) := wf
            cases es2 : S.sus with
            | nil =>
              rw [es2] at wf
              cases s with
              | nil => cases wf
              | cons o s => cases o <;> exact wf.elim
            | cons u r =>
              rw [es2] at wf
              exact ⟨T, l, et, eTe, u, r, rfl, wf⟩
      have hT := SG.topMem et
      have tT := hd.tr T hT
      have t1 := tT.far hdb (fun _ z => z) kp1
      rw [et] at d2 e2 ⊢
      rw [eu] at d2 e2 ⊢
      have bk2 : BkR H F bl.reverse (blkOf s (vT u :: r.map vT)) := by
        have e2 : blkOf s (vT u :: r.map vT) = m := e2
        rw [e2]
        exact bk'
      have ht1 : HT H1 F S.p T.q.o S.held T.e.own := ⟨hd.all T hT, fun z hz n => kp1 _ _ (hd.hl T hT z hz n) (ne_kin (hd.hl T hT z hz n) hdb.hd (by simp [kin])) (hd.nl z hz).1, hd.one, fun z hz => ⟨((hd.nl z hz).2.2 T hT).1, (hd.nl z hz).1, (hd.nl z hz).2.1⟩, hd.fl⟩
      have zT := sz.2.2.2.2 T hT
      have zk := sz.2.2.2.1
      have ow : T.e.own = l.ws := by rw [eTe, own_cons]; rfl
      have wl : ∀ x ∈ T.e.own, WAt CW H (.ref T.t) x := tT.hw
      have tsu : ∀ S' : SG, S'.top = u → S'.sus = r → S'.ts = S.sus.filterMap id := fun S' q1 q2 => by
        unfold SG.ts
        rw [q1, q2, eu]
        cases u <;> rfl
      refine iteT ⟨_, rfl, S.d, S.p.dx, _, rfl, d2.hd, rfl, _, rfl, _, rfl, _, rfl, S.d, S.p, _, bl, S.made, S.held, S.kept, F, T, l, [], err, goes, rfl, d2, t1, eTe, ht1, (fun z hz => ((hd.nl z hz).2.2 T hT).2), zT.1, zk, zT.2, fun H2 fr2 d3 nn s2 t2 => ?_⟩
      have undo : ∀ rr : Str, ((err.isSome || l.why.isSome) = true ∧ [] = ([] : List Wr) ∧ l.ws = l.ws ∧ rr = (if err.isSome = true then "" else "doomed")) ∨ (err = none ∧ l.why = none ∧ goes = true ∧ [] = l.ws ∧ l.ws = [] ∧ rr = "") ∨ (err = none ∧ l.why = none ∧ goes = false ∧ [] = ([] : List Wr) ∧ l.ws = l.ws ∧ rr = "refused") →
          ∀ H', UInv c CW H2 H' F S.d T.t S.p (vT u) bl S.made S.held S.kept [] l.ws [] l.ws T.q.o → Q (.str rr) H' := by
        intro rr c1 H' U
        have kpA : ∀ b o, H b = some o → b ≠ S.d → b ≠ S.p.b → b ≠ S.p.h → b ≠ T.t → b ≠ T.q.s → b ≠ T.q.o → (∀ x ∈ T.e.own, b ≠ x.a) → (∀ z ∈ S.held, ofR T.e.own z.1 ≠ [] → b ≠ z.2) → H' b = some o := fun b o e n1 n2 n3 n4 n5 n6 n7 n8 => by
          rw [ow] at n7 n8
          exact U.out b o (nn b o (kp1 b o e n1 n2) n5 n4) n6 n3 n7 n8
        have db' := U.db
        refine k' H' { S with bl := bl, sorts := s, top := u, sus := r, held := heldCut S.held ([] ++ l.ws) ([] ++ []) } rr [] l.ws (fr1.trans (fr2.trans U.fr))
          (hd.gone et (tsu _ rfl rfl) rfl (fun _ z => z) (fun z => ?_) List.filter_sublist (fun b o e n1 n2 n3 _ n5 n6 n7 n8 n9 => kpA b o e n1 n2 n3 n5 n6 n7 n8 n9) db' ?_ wf') ⟨rfl, rfl, rfl, lb, rfl, len_cut ..⟩ ⟨T, l, u, et, eTe, eu, rfl, rfl, c1⟩ fun W hW => ?_
        · show z ∈ heldCut S.held ([] ++ l.ws) ([] ++ []) ↔ _
          rw [mem_cut, ow]
          refine and_congr_right fun _ => ?_
          show ([] : List Wr) ≠ [] ∨ ofR l.ws z.1 = [] ↔ _
          simp
        · refine bk2.mv (fun x xs _ e => kpA _ _ e (ne_kin e hdb.hd (by simp [kin])) (ne_kin e hdb.hb (by simp [kin])) (ne_kin e hdb.hh (by simp [kin])) (ne_kin e tT.ht (by simp [kin])) (ne_kin e tT.hs (by simp [kin])) (ne_kin e tT.ho (by simp [kin])) (fun y hy => ?_) fun z hz n => ne_kin e (hd.hl T hT z hz n) (by simp [kin])) fun _ z => z
          obtain ⟨dx, f, q⟩ := wl y hy
          exact ne_kin e q (by simp [kin])
        · rw [fateOf_nil]
          refine hW.fate (fun b o e kq n => kpA b o e (ne14 e kq hdb.hd) (ne14 e kq hdb.hb) (ne14 e kq hdb.hh) (ne14 e kq tT.ht) (ne14 e kq tT.hs) (ne14 e kq tT.ho) (by rw [ow]; exact n) fun z hz n => ne14 e kq (hd.hl T hT z hz n)) (fun x hx => ⟨_, wl x (by rw [ow]; exact hx)⟩) (fun x hx => ?_) fun _ z => z
          obtain ⟨dx, q⟩ := U.un x hx
          exact ⟨dx, _, q⟩
      cases err with
      | some w => exact fun H' U => undo "" (.inl ⟨rfl, rfl, rfl, rfl⟩) H' U
      | none =>
        cases hw : l.why with
        | some w =>
          unfold endO
          rw [hw]
          exact fun H' U => undo "doomed" (.inl ⟨by rw [hw]; rfl, rfl, rfl, rfl⟩) H' U
        | none =>
          unfold endO
          rw [hw]
          cases goes with
          | false => exact fun H' U => undo "refused" (.inr (.inr ⟨rfl, hw, rfl, rfl, rfl, rfl⟩)) H' U
          | true =>
            intro H' U
            have kpA : ∀ b o, H b = some o → b ≠ S.d → b ≠ S.p.b → b ≠ S.p.h → b ≠ S.p.k → b ≠ T.t → b ≠ T.q.s → (∀ x ∈ T.e.own, b ≠ x.a) → H' b = some o := fun b o e n1 n2 n3 n4 n5 n6 n7 => U.out b o (nn b o (kp1 b o e n1 n2) n6 n5) n4 n3 n7
            have db' := U.db
            refine k' H' { S with bl := bl, sorts := s, top := u, sus := r, held := rest S.held T.e.own, kept := T.e.own.foldl putW S.kept } "" T.e.own [] (fr1.trans (fr2.trans U.fr))
              (hd.gone et (tsu _ rfl rfl) rfl (fun _ z => z) (fun z => mem_rest) List.filter_sublist (fun b o e n1 n2 n3 n4 n5 n6 _ n8 _ => kpA b o e n1 n2 n3 n4 n5 n6 n8) db' ?_ wf') ⟨rfl, rfl, rfl, lb, rfl, len_rest ..⟩ ⟨T, l, u, et, eTe, eu, rfl, rfl, .inr (.inl ⟨rfl, hw, rfl, ow, rfl, rfl⟩)⟩ fun W hW => ?_
            · refine bk2.mv (fun x xs _ e => kpA _ _ e (ne_kin e hdb.hd (by simp [kin])) (ne_kin e hdb.hb (by simp [kin])) (ne_kin e hdb.hh (by simp [kin])) (ne_kin e hdb.hk (by simp [kin])) (ne_kin e tT.ht (by simp [kin])) (ne_kin e tT.hs (by simp [kin])) fun y hy => ?_) fun _ z => z
              obtain ⟨dx, f, q⟩ := wl y hy
              exact ne_kin e q (by simp [kin])
            · rw [fateOf_nil]
              refine hW.fate (fun b o e kq n => kpA b o e (ne14 e kq hdb.hd) (ne14 e kq hdb.hb) (ne14 e kq hdb.hh) (ne14 e kq hdb.hk) (ne14 e kq tT.ht) (ne14 e kq tT.hs) n) (fun x hx => ⟨_, wl x hx⟩) (fun x hx => ?_) fun _ z => z
              obtain ⟨dx, q⟩ := U.dn x hx
              exact ⟨dx, _, q⟩
end
end IC
namespace IC
open PySem L2 TL
/-- the database with another floor -/
def SG.setFl (S : SG) (fl : Int) : SG := { S with p := { S.p with fl := fl } }
section
variable {c : Cs} {CW : Addr} {H : Hp} {F : Addr → Prop} {S : SG}
theorem D3.setFl {d : Addr} {p : DbP} {pv : V} {bl : List Addr} {made : List V} {held : List (Str × Addr)} {kept : List Wr} (h : D3 c CW H F d p pv bl made held kept) (fl : Int) :
    D3 c CW (upd H d (.ins c.D p.dx (dbf pv fl p.b p.m p.h p.k))) F d { p with fl := fl } pv bl made held kept :=
  ⟨upd_same, by rw [upd_ne (ne_kin h.hb h.hd (by simp [kin]))]; exact h.hb, by rw [upd_ne (ne_kin h.hm h.hd (by simp [kin]))]; exact h.hm, by rw [upd_ne (ne_kin h.hh h.hd (by simp [kin]))]; exact h.hh, by rw [upd_ne (ne_kin h.hk h.hd (by simp [kin]))]; exact h.hk,
    fun x hx => let ⟨v, w⟩ := h.hw x hx; ⟨v, w.mv fun o e => by
      rcases w with ⟨dx, f, e2⟩
      rw [upd_ne (ne_kin e2 h.hd (by show 14 ≠ 16; decide))]
      exact e⟩, h.nbm, h.nhk, h.fd, h.fb, h.fm, h.fh, h.fk, h.fw⟩
theorem DbG.setFl (h : DbG c CW H F S) (fl : Int) : DbG c CW (upd H S.d (.ins c.D S.p.dx (dbf (vT S.top) fl S.p.b S.p.m S.p.h S.p.k))) F (S.setFl fl) := by
  have kp : ∀ b o, H b = some o → b ≠ S.d → upd H S.d (.ins c.D S.p.dx (dbf (vT S.top) fl S.p.b S.p.m S.p.h S.p.k)) b = some o := fun b o e n => by rw [upd_ne n]; exact e
  refine ⟨h.db.setFl fl, fun T hT => ?_, fun T hT z hz n => ?_, h.all, h.owd, h.one, h.nl, h.fl, h.ap, ?_, h.wf, h.hn⟩
  · have t := (h.tr T hT).far h.db (fun _ q => q) fun b o e n _ => kp b o e n
    exact ⟨t.ne, t.ht, t.ho, t.hs, t.hw, t.low, t.nos, t.nob, t.nom, t.nsb, t.nsm, t.ft, t.fo, t.fs, t.fw⟩
  · have e := h.hl T hT z hz n
    exact kp _ _ e (ne_kin e h.db.hd (by simp [kin]))
  · exact h.bk.mv (fun x xs f e => kp x _ e (ne_kin e h.db.hd (by simp [kin]))) fun _ q => q
theorem SG.setFl_setFl (a b : Int) : (S.setFl a).setFl b = S.setFl b := rfl
theorem SG.setFl_self : S.setFl S.p.fl = S := rfl
end
end IC
namespace IC
open PySem L2 TL
/-- Database(): a new one, empty -/
def spDbG (c : Cs) (CW : Addr) : Sp := fun vs H Q _ => ∃ (d dx : Addr), vs = [.ref d] ∧ H d = some (.ins c.D dx []) ∧ ∀ (H' : Hp) (F' : Addr → Prop) (p : DbP), Kp [d] H H' → (∀ x, F' x → x = d ∨ H x = none) → p.fl = 0 → DbG c CW H' F' ⟨d, p, [], [], [], [], none, [], []⟩ → Q .non H'
section
variable {P : Program} {w : World} {K : PySem.W.Frag} {mg : Str → Option Value} {base : Heap} {c : Cs} {CW : Addr}
theorem ok_wr_init {f : Addr} {fd : FuncData} (F : Fun K "__init__" "Write.__init__" s_Write___init__ f fd) (B : WTxt K c CW) : FnOk P w K mg base CX0 1 f fd ["self", "record", "value", "holder"] (spWr CW) := by
  refine F.ok sc_Write___init__ (fun vs H Q E h => ?_) (fun cdv A outer s H vs Q E hr h => ?_)
  · obtain ⟨a, dx, r, v, h, rfl, _⟩ := h
    rfl
  · obtain ⟨a, dx, r, v, hv, rfl, ha, k⟩ := h
    refine ⟨_, (pss_cons (ps_fld (pv 0) (pv 1) rfl)
  (pss_cons (ps_fld (pv 0) (pv 2) rfl)
  (pss_cons (ps_fld (pv 0) (pv 3) rfl)
  (pss_one (ps_fld (pv 0) pe_str rfl))))), ?_⟩
    refine ⟨_, rfl, _, rfl, a, CW, dx, [], rfl, ha, B.cW, B.nR, (by show 0 < 1000; decide), ?_⟩
    refine ⟨_, rfl, _, rfl, a, CW, dx, _, rfl, upd_same, B.cW, B.nV, (by show 1 < 1000; decide), ?_⟩
    refine ⟨_, rfl, _, rfl, a, CW, dx, _, rfl, upd_same, B.cW, B.nH, (by show 2 < 1000; decide), ?_⟩
    refine ⟨_, rfl, a, CW, dx, _, rfl, upd_same, B.cW, B.nF, (by show 3 < 1000; decide), ?_⟩
    rw [upd_upd, upd_upd, upd_upd]
    exact k
theorem ok_tr3_init {f : Addr} {fd : FuncData} (F : Fun K "__init__" "Transaction.__init__" s_Transaction___init__ f fd) (B : DbTxt K mg c) : FnOk P w K mg base CX0 1 f fd ["self"] (spTrInit c) := by
  refine F.ok sc_Transaction___init__ (fun vs H Q E h => ?_) (fun cdv A outer s H vs Q E hr h => ?_)
  · obtain ⟨t, dx, rfl, _⟩ := h
    rfl
  · obtain ⟨t, dx, rfl, ht, k⟩ := h
    refine ⟨_, (pss_cons (ps_fld (pv 0) (pe_lst pa_nil) rfl)
  (pss_cons (ps_fld (pv 0) (pe_lst (pa_cons pe_int pa_nil)) rfl)
  (pss_one (ps_fld (pv 0) pe_non rfl)))), ?_⟩
    refine ⟨Nat.zero_le _, fun o no => ?_⟩
    have to : t ≠ o := ne_of_none ht no
    refine ⟨_, rfl, t, c.T, dx, [], rfl, (by rw [upd_ne to]; exact ht), B.cT, B.nO, (by show 0 < 1000; decide), ?_⟩
    refine ⟨(by show 1 ≤ sizeLine; decide), fun e ne => ?_⟩
    have te : t ≠ e := ne_of_none upd_same ne
    have e2 := none_of (none_of ne).2
    refine ⟨_, rfl, t, c.T, dx, [("own", V.ref o)], rfl, (by rw [upd_ne te]; exact upd_same), B.cT, B.nS, (by show 1 < 1000; decide), ?_⟩
    refine ⟨_, rfl, t, c.T, dx, [("own", V.ref o), ("starts", V.ref e)], rfl, upd_same, B.cT, B.n1, (by show 2 < 1000; decide), ?_⟩
    refine k _ o e ?_ no e2.2 ⟨upd_same, ?_, ?_, e2.1⟩
    · exact ((((Kp.new no).mutAt (List.mem_singleton.mpr rfl)).newAt ne).mutAt (List.mem_singleton.mpr rfl)).mutAt (List.mem_singleton.mpr rfl)
    · rw [upd_ne to.symm, upd_ne to.symm, upd_ne e2.1, upd_ne to.symm, upd_same]
    · rw [upd_ne te.symm, upd_ne te.symm, upd_same]
      rfl
theorem ok_dbG_init {f : Addr} {fd : FuncData} (F : Fun K "__init__" "Database.__init__" s_Database___init__ f fd) (B : DbTxt K mg c) : FnOk P w K mg base CX0 1 f fd ["self"] (spDbG c CW) := by
  refine F.ok sc_Database___init__ (fun vs H Q E h => ?_) (fun cdv A outer s H vs Q E hr h => ?_)
  · obtain ⟨d, dx, rfl, _⟩ := h
    rfl
  · obtain ⟨d, dx, rfl, hd, k⟩ := h
    refine ⟨_, (pss_cons (ps_fld (pv 0) pe_non rfl)
  (pss_cons (ps_fld (pv 0) (pe_lst pa_nil) rfl)
  (pss_cons (ps_fld (pv 0) pe_int rfl)
  (pss_cons (ps_fld (pv 0) (pe_lst pa_nil) rfl)
  (pss_cons (ps_fld (pv 0) pe_dnewK rfl)
  (pss_one (ps_fld (pv 0) pe_dnewK rfl))))))), ?_⟩
    refine ⟨_, rfl, d, c.D, dx, [], rfl, hd, B.cD, B.nP, (by show 0 < 1000; decide), ?_⟩
    refine ⟨Nat.zero_le _, fun b nb => ?_⟩
    have db : d ≠ b := ne_of_none upd_same nb
    refine ⟨_, rfl, d, c.D, dx, _, rfl, (by rw [upd_ne db]; exact upd_same), B.cD, B.nB, (by show 1 < 1000; decide), ?_⟩
    refine ⟨_, rfl, d, c.D, dx, _, rfl, upd_same, B.cD, B.nF, (by show 2 < 1000; decide), ?_⟩
    refine ⟨Nat.zero_le _, fun m nm => ?_⟩
    have dm : d ≠ m := ne_of_none upd_same nm
    have m2 := none_of (none_of (none_of nm).2).2
    refine ⟨_, rfl, d, c.D, dx, _, rfl, (by rw [upd_ne dm]; exact upd_same), B.cD, B.nM, (by show 3 < 1000; decide), ?_⟩
    intro h nh
    have dh : d ≠ h := ne_of_none upd_same nh
    have h2 := none_of (none_of nh).2
    have h3 := none_of (none_of h2.2).2
    have h4 := none_of h3.2
    refine ⟨_, rfl, d, c.D, dx, _, rfl, (by rw [upd_ne dh]; exact upd_same), B.cD, B.nH, (by show 4 < 1000; decide), ?_⟩
    intro k' nk
    have dk : d ≠ k' := ne_of_none upd_same nk
    have k2 := none_of (none_of nk).2
    have k3 := none_of (none_of k2.2).2
    have k4 := none_of (none_of k3.2).2
    have k5 := none_of k4.2
    refine ⟨_, rfl, d, c.D, dx, _, rfl, (by rw [upd_ne dk]; exact upd_same), B.cD, B.nK, (by show 5 < 1000; decide), ?_⟩
    have i : d ∈ [d] := List.mem_singleton.mpr rfl
    refine k _ (fun x => x = d ∨ x = b ∨ x = m ∨ x = h ∨ x = k') ⟨dx, b, m, h, k', 0⟩ ?_ ?_ rfl ⟨⟨upd_same, ?_, ?_, ?_, ?_, nofun, m2.1, k2.1, .inl rfl, .inr (.inl rfl), .inr (.inr (.inl rfl)), .inr (.inr (.inr (.inl rfl))), .inr (.inr (.inr (.inr rfl))), nofun⟩, nofun, nofun, nofun, nofun, nofun, nofun, nofun, List.Pairwise.nil, trivial, rfl, List.Pairwise.nil⟩
    · exact (((((((((Kp.at_ i).newAt nb).mutAt i).mutAt i).newAt nm).mutAt i).newAt nh).mutAt i).newAt nk).mutAt i
    · rintro x (q | q | q | q | q)
      · exact .inl q
      · exact .inr (q ▸ (none_of nb).2)
      · exact .inr (q ▸ (none_of m2.2).2)
      · exact .inr (q ▸ (none_of h4.2).2)
      · exact .inr (q ▸ (none_of k5.2).2)
    · rw [upd_ne db.symm, upd_ne k5.1, upd_ne db.symm, upd_ne h4.1, upd_ne db.symm, upd_ne m2.1, upd_ne db.symm, upd_ne db.symm, upd_same]
      rfl
    · rw [upd_ne dm.symm, upd_ne k3.1, upd_ne dm.symm, upd_ne h2.1, upd_ne dm.symm, upd_same]
    · rw [upd_ne dh.symm, upd_ne k2.1, upd_ne dh.symm, upd_same]
      rfl
    · rw [upd_ne dk.symm, upd_same]
      rfl
end
end IC
namespace IC
open PySem L2 TL
theorem SzG.up {S : SG} {n m : Nat} (h : SzG S n) (e : n ≤ m) : SzG S m := ⟨by have := h.1; omega, by have := h.2.1; omega, by have := h.2.2.1; omega, by have := h.2.2.2.1; omega, fun T hT => ⟨by have := (h.2.2.2.2 T hT).1; omega, by have := (h.2.2.2.2 T hT).2; omega⟩⟩
theorem blkOf_len : ∀ (s : List So) (es : List V), (blkOf s es).length = s.length
  | [], _ => rfl
  | o :: s, es => by
    cases o <;> (show (blkOf s _).length + 1 = s.length + 1; rw [blkOf_len s])
theorem bkR_len {H : Hp} {F : Addr → Prop} : ∀ {l : List Addr} {m : List (Str × V)}, BkR H F l m → l.length = m.length
  | [], [], _ => rfl
  | [], _ :: _, h => h.elim
  | _ :: _, [], h => h.elim
  | _ :: l, _ :: m, h => by rw [List.length_cons, List.length_cons, bkR_len h.2]
theorem DbG.sorts_len {c : Cs} {CW : Addr} {H : Hp} {F : Addr → Prop} {S : SG} (h : DbG c CW H F S) : S.sorts.length = S.bl.length := by
  have q := bkR_len h.bk
  rw [List.length_reverse, blkOf_len] at q
  exact q.symm
/-- db.leave(error, commits=goes) -/
def spLeaveG (K : PySem.W.Frag) (c : Cs) (CW EB EN ER : Addr) : Sp := fun vs H Q E => ∃ (S : SG) (F : Addr → Prop) (ev : V) (goes : Bool), vs = [.ref S.d, ev, .bl goes] ∧ DbG c CW H F S ∧ SzG S 900 ∧
  (((S.bl.length : Int) = S.p.fl ∧ E (.ref EN) none H) ∨ ((S.bl.length : Int) ≠ S.p.fl ∧ NoW K H ev ∧ ev ≠ .non ∧ ErrQ EB (fsB ev) H E) ∨
   ((S.bl.length : Int) ≠ S.p.fl ∧ S.sorts ≠ [] ∧ ∃ err : Option Str, ev = oV err ∧ (∀ w, err = some w → IsW w) ∧ ∀ (H' : Hp) (S' : SG) (r : Str) (ks us : List Wr), Fr F F H H' → DbG c CW H' F S' → LvE S S' ks → LvR S S' err goes r ks us → FtR CW H H' F S.made ks us →
     (r = "" → Q .non H') ∧ (r = "doomed" → ErrQ c.O (fsD (oV (eT S.top).why)) H' E) ∧ (r = "refused" → ErrQ ER fsRf H' E)))
theorem LvR.word {S S' : SG} {err : Option Str} {goes : Bool} {r : Str} {ks us : List Wr} (h : LvR S S' err goes r ks us) : r = "" ∨ r = "doomed" ∨ r = "refused" := by
  unfold LvR at h
  cases es : S.sorts with
  | nil => rw [es] at h; exact h.elim
  | cons o s =>
    rw [es] at h
    cases o with
    | plain => exact .inl h.2.2.2.2.1
    | outside => exact .inl h.2.2.2.1
    | joined => exact .inl h.2.2.2.1
    | level =>
      obtain ⟨T, l, l2, e, _, _, _, _, h | h⟩ := h
      · rw [h.2.2.2.2]
        cases err <;> simp
      · exact .inl h.2.2.2.2.2
    | base =>
      obtain ⟨T, l, o, _, _, _, _, _, h | h | h⟩ := h
      · rw [h.2.2.2]
        cases err <;> simp
      · exact .inl h.2.2.2.2.2
      · exact .inr (.inr h.2.2.2.2.2)
section
variable {P : Program} {w : World} {K : PySem.W.Frag} {mg : Str → Option Value} {base : Heap} {c : Cs} {CW EB EN ER : Addr}
theorem ok_leaveG {f : Addr} {fd : FuncData} {dvs : List V} {kws : List (Str × V)} (F : FunD K "leave" "Database.leave" (defArgs s_Database_leave) (defBody s_Database_leave) (defScope s_Database_leave) dvs kws f fd) (T : Bn mg) (B : DbTxt K mg c)
    (P_reason : PDf P w K mg base 1 c.D "reason" (spLookG c CW 0 fun S _ v => v = oV (eT S.top).why)) (M_end_block : MDf P w K mg base CX0 3 c.D "_end_block" ["self", "error", "commits"] [] (spEndBG c CW)) (D_is_word : Df P w K mg base 1 "is_word" ["thing"] (spIsWord K))
    (E_B : EDf P w K mg base 1 "BadWord" EB "word" fsB) (kB : PySem.W.keepIn K (.ref EB) = true) (E_O : EDf P w K mg base 1 "Doomed" c.O "first" fsD) (kO : PySem.W.keepIn K (.ref c.O) = true) (E_R : EDf0 P w K mg base 1 "Refused" ER fsRf)
    (xN : PySem.W.excIn K EN [.type "ValueError", .type "Exception", .type "BaseException", .type "object"] "ValueError.__new__" = true) (gN : mg "NoBlock" = some (.ref EN)) (kN : PySem.W.keepIn K (.ref EN) = true)
    (bN : PySem.W.subIn K (.ref EN) (.type "BaseException") = some true) (tN : PySem.W.typeIn K (.ref EN) = some (.type "type")) : FnOk P w K mg base (L2.CX P w) 4 f fd ["self", "error", "commits"] (spLeaveG K c CW EB EN ER) := by
  refine F.ok sc_Database_leave (fun vs H Q E h => ?_) (fun cdv A outer s H vs Q E hr h => ?_)
  · obtain ⟨S, F, ev, goes, rfl, _⟩ := h
    rfl
  · obtain ⟨S, F, ev, goes, rfl, hd, sz, k⟩ := h
    refine ⟨_, (pss_cons (ps_if (pt_cmpR op_eq (pe_callB call_len_seq (by rfl) T.len PySem.boot_len (pa_cons (pe_fld (pv 0) rfl) pa_nil)) (pe_fld (pv 0) rfl) (nomark _))
  (pss_one (ps_raise rfl (takes_of rfl rfl rfl rfl) (pmk_plain0 PySem.F.excBase_ValueError xN gN kN (raises_own bN tN) rfl)))
  pss_nil)
  (Evl.pss_cut (ps_if (PW.pt (pw_and (pt_cmpR op_notN (pv 1) pe_non (nomark _)) (pw_and1 (pt_not (pt_val (pe_df D_is_word hr (by decide) rfl (pa_cons (pv 1) pa_nil)))))))
  (pss_one (ps_raise rfl (takes_of rfl rfl rfl rfl) (pmk_ed E_B kB hr (by decide) rfl (pa_cons (pv 1) pa_nil))))
  pss_nil)
  (pss_cons (ps_set (i := 3) sc_Database_leave.nd rfl (Or.inl rfl) (pe_pd P_reason B.cD hr (by decide) (pv 0)))
  (pss_cons (ps_set (i := 4) sc_Database_leave.nd rfl (Or.inl rfl) (pe_md M_end_block B.cD hr (by decide) (pv 0) (pa_cons (pv 1) (pa_cons (pv 2) pa_nil))))
  (pss_cons (ps_if (pt_cmpR op_eq (pv 4) pe_str (nomark _))
  (pss_one (ps_raise rfl (takes_of rfl rfl rfl rfl) (pmk_ed E_O kO hr (by decide) rfl (pa_cons (pv 3) pa_nil))))
  pss_nil)
  (pss_one (ps_if (pt_cmpR op_eq (pv 4) pe_str (nomark _))
  (pss_one (ps_raise rfl (takes_of rfl rfl rfl rfl) (pmk_ed0 E_R hr (by decide) rfl)))
  pss_nil))))))), ?_⟩
    have hdb := hd.db
    refine ⟨_, rfl, S.d, c.D, S.p.dx, _, _, rfl, hdb.hd, B.cD, B.nB, rfl, S.p.b, _, rfl, .inl (SqL.of hdb.hb), _, rfl, S.d, c.D, S.p.dx, _, _, rfl, hdb.hd, B.cD, B.nF, rfl, rfl, _, rfl, ?_⟩
    rw [List.length_map]
    rcases k with ⟨e0, k⟩ | k
    · rw [e0, decide_eq_true rfl]
      exact iteT k
    have e0 : decide (V.int (S.bl.length : Int) = V.int S.p.fl) = false := by
      rw [decide_eq_false_iff_not]
      intro e
      injection e with e
      exact k.elim (fun q => q.1 e) fun q => q.1 e
    rw [e0]
    refine iteF ?_
    rcases k with ⟨_, nw, nn, k⟩ | ⟨_, ns, err, rfl, hw, k⟩
    · refine ⟨fun _ _ => False, ?_, fun _ _ h => h.elim⟩
      refine ⟨_, rfl, rfl, _, rfl, ?_⟩
      rw [decide_eq_false nn]
      refine iteT ⟨_, rfl, ?_⟩
      rcases nw with ⟨z, rfl, hl, hz⟩ | ot
      · refine ⟨_, rfl, .inl ⟨z, rfl, hl, fun H1 s1 => ⟨_, rfl, ?_⟩⟩⟩
        rw [hz]
        exact iteT ⟨_, rfl, mke _ rfl fun x hx => k x _ (s1.trans (Same.new hx)) upd_same⟩
      · exact ⟨_, rfl, .inr ⟨ot, fun H1 s1 => ⟨_, rfl, iteT ⟨_, rfl, mke _ rfl fun x hx => k x _ (s1.trans (Same.new hx)) upd_same⟩⟩⟩⟩
    refine ⟨fun σ' H' => σ' = [some (.ref S.d), some (oV err), some (.bl goes), none, none] ∧ Same H H', ?_, ?_⟩
    · cases err with
      | none => exact ⟨_, rfl, rfl, _, rfl, iteF (iteF ⟨rfl, fun _ _ e => e⟩)⟩
      | some w =>
        have ww := hw w rfl
        refine ⟨_, rfl, rfl, _, rfl, iteT ?_⟩
        refine ⟨_, rfl, _, rfl, .inl ⟨w, rfl, by have := ww.2.1; omega, fun H1 s1 => ⟨_, rfl, ?_⟩⟩⟩
        rw [wB_of ww]
        exact iteF ⟨rfl, s1⟩
    rintro σ' H1 ⟨rfl, s1⟩
    have hd1 := hd.same s1
    refine ⟨_, rfl, S.d, S.p.dx, _, rfl, hd1.db.hd, S, F, [], _, rfl, rfl, hd1, sz.up (by decide), rfl, ?_⟩
    refine ⟨_, rfl, S.d, S.p.dx, _, rfl, hd1.db.hd, rfl, _, rfl, _, rfl, S, F, err, goes, rfl, hd1, sz, ns, fun H' S' r ks us fr hd' le lr ft => ?_⟩
    have k' := k H' S' r ks us ((Fr.same s1).trans fr) hd' le lr fun W hW => ft W (hW.mv (fun x o _ e => s1 x o e) fun _ z => z)
    rcases lr.word with rfl | rfl | rfl
    · exact ⟨_, rfl, rfl, _, rfl, iteF ⟨_, rfl, rfl, _, rfl, iteF (k'.1 rfl)⟩⟩
    · have k2 := k'.2.1 rfl
      exact ⟨_, rfl, rfl, _, rfl, iteT ⟨_, rfl, mke _ rfl fun x hx => k2 x _ (Same.new hx) upd_same⟩⟩
    · have k2 := k'.2.2 rfl
      exact ⟨_, rfl, rfl, _, rfl, iteF ⟨_, rfl, rfl, _, rfl, iteT (mke0 fun x hx => k2 x _ (Same.new hx) upd_same)⟩⟩
end
end IC
namespace IC
open PySem L2 TL
/-- the present transaction's top level is doomed -/
def SG.doomed (S : SG) (w : Str) : SG := { S with top := S.top.map fun T => dmT T (some w) }
/-- db.doom(first) -/
def spDoomG (K : PySem.W.Frag) (c : Cs) (CW EB : Addr) : Sp := fun vs H Q E => ∃ (S : SG) (F : Addr → Prop) (v : V), vs = [.ref S.d, v] ∧ DbG c CW H F S ∧
  ((NoW K H v ∧ ErrQ EB (fsB v) H E) ∨ ∃ w, v = .str w ∧ IsW w ∧ ∀ H', Fr F F H H' → Wst H H' → DbG c CW H' F (S.doomed w) → Q .non H')
section
variable {P : Program} {w : World} {K : PySem.W.Frag} {mg : Str → Option Value} {base : Heap} {c : Cs} {CW EB : Addr}
/-- the transaction T is doomed by w on the heap -/
theorem TrG.doom {H H2 : Hp} {F : Addr → Prop} {p : DbP} {T : Tr} {w : Str} (tT : TrG c CW H F p T) (kp : ∀ b o, H b = some o → b ≠ T.t → H2 b = some o) (e : H2 T.t = some (.ins c.T T.q.dx (trf T.q.o T.q.s (oV (some (T.e.why.getD w)))))) : TrG c CW H2 F p (dmT T (some w)) := by
  refine ⟨?_, ?_, ?_, ?_, fun x hx => ?_, ?_, tT.nos, tT.nob, tT.nom, tT.nsb, tT.nsm, tT.ft, tT.fo, tT.fs, fun x hx => ?_⟩
  · show doomTop w T.e ≠ []
    cases ee : T.e with
    | nil => exact absurd ee tT.ne
    | cons l e => intro q; cases q
  · show H2 T.t = some (.ins c.T T.q.dx (trf T.q.o T.q.s (oV (En.why (doomTop w T.e)))))
    rw [doomTop_why w tT.ne]
    exact e
  · show H2 T.q.o = some (.lst (refs (En.own (doomTop w T.e))))
    rw [doomTop_own]
    exact kp _ _ tT.ho (ne_kin tT.ho tT.ht (by simp [kin]))
  · show H2 T.q.s = some (.lst ((En.starts (doomTop w T.e)).map fun n : Nat => V.int (n : Int)))
    rw [doomTop_starts]
    exact kp _ _ tT.hs (ne_kin tT.hs tT.ht (by simp [kin]))
  · have hx : x ∈ En.own (doomTop w T.e) := hx
    rw [doomTop_own] at hx
    obtain ⟨dx, f, q⟩ := tT.hw x hx
    exact ⟨dx, f, kp _ _ q (ne_kin q tT.ht (by simp [kin]))⟩
  · show ∀ l ∈ (doomTop w T.e).tail, l.why = none
    rw [doomTop_tail]
    exact tT.low
  · have hx : x ∈ En.own (doomTop w T.e) := hx
    rw [doomTop_own] at hx
    exact tT.fw x hx
theorem ok_doomG {f : Addr} {fd : FuncData} {dvs : List V} {kws : List (Str × V)} (F : FunD K "doom" "Database.doom" (defArgs s_Database_doom) (defBody s_Database_doom) (defScope s_Database_doom) dvs kws f fd) (B : DbTxt K mg c) (D_is_word : Df P w K mg base 1 "is_word" ["thing"] (spIsWord K))
    (M_tdoom : MDf P w K mg base CX0 1 c.T "doom" ["self", "first"] [] (spTrDoomG c)) (E_B : EDf P w K mg base 1 "BadWord" EB "word" fsB) (kB : PySem.W.keepIn K (.ref EB) = true) : FnOk P w K mg base (L2.CX P w) 3 f fd ["self", "first"] (spDoomG K c CW EB) := by
  refine F.ok sc_Database_doom (fun vs H Q E h => ?_) (fun cdv A outer s H vs Q E hr h => ?_)
  · obtain ⟨S, F, v, rfl, _⟩ := h
    rfl
  · obtain ⟨S, F, v, rfl, hd, k⟩ := h
    refine ⟨_, (pss_cons (ps_if (pt_not (pt_val (pe_df D_is_word hr (by decide) rfl (pa_cons (pv 1) pa_nil))))
  (pss_one (ps_raise rfl (takes_of rfl rfl rfl rfl) (pmk_ed E_B kB hr (by decide) rfl (pa_cons (pv 1) pa_nil))))
  pss_nil)
  (pss_one (ps_if (pt_cmpR op_notN (pe_fld (pv 0) rfl) pe_non (nomark _))
  (pss_one (ps_expr (pe_md M_tdoom B.cT hr (by decide) (pe_fld (pv 0) rfl) (pa_cons (pv 1) pa_nil))))
  pss_nil))), ?_⟩
    rcases k with ⟨nw, k⟩ | ⟨w, rfl, hw, k⟩
    · refine ⟨_, rfl, _, rfl, ?_⟩
      rcases nw with ⟨z, rfl, hl, hz⟩ | ot
      · refine .inl ⟨z, rfl, hl, fun H1 s1 => ⟨_, rfl, ?_⟩⟩
        rw [hz]
        exact iteT ⟨_, rfl, mke _ rfl fun x hx => k x _ (s1.trans (Same.new hx)) upd_same⟩
      · exact .inr ⟨ot, fun H1 s1 => ⟨_, rfl, iteT ⟨_, rfl, mke _ rfl fun x hx => k x _ (s1.trans (Same.new hx)) upd_same⟩⟩⟩
    refine ⟨_, rfl, _, rfl, .inl ⟨w, rfl, by have := hw.2.1; omega, fun H1 s1 => ⟨_, rfl, ?_⟩⟩⟩
    rw [wB_of hw]
    refine iteF ?_
    have hd1 := hd.same s1
    have hdb := hd1.db
    refine ⟨_, rfl, S.d, c.D, S.p.dx, _, _, rfl, hdb.hd, B.cD, B.nP, rfl, rfl, _, rfl, ?_⟩
    cases et : S.top with
    | none =>
      have es : S.doomed w = S := by
        obtain ⟨d, p, bl, made, held, kept, top, sus, sorts⟩ := S
        subst et
        rfl
      rw [es] at k
      exact iteF (k H1 (Fr.same s1) (Wst.same s1) hd1)
    | some T =>
      have hT := SG.topMem et
      have tT := hd1.tr T hT
      rw [et] at hdb
      refine iteT ⟨_, rfl, S.d, c.D, S.p.dx, _, _, rfl, hdb.hd, B.cD, B.nP, rfl, T.t, T.q.dx, _, rfl, tT.ht, rfl, _, rfl, T.t, T.q, T.e.why, w, rfl, tT.ht, fun H2 kp e2 => ?_⟩
      have kp' : ∀ b o, H1 b = some o → b ≠ T.t → H2 b = some o := fun b o e n => kp b o e (by simpa using n)
      have eS : S.doomed w = { S with top := some (dmT T (some w)) } := by unfold SG.doomed; rw [et]; rfl
      have d3 : D3 c CW H2 F S.d S.p (.ref T.t) S.bl S.made S.held S.kept := by
        have go : ∀ {b : Addr} {o : HO}, H1 b = some o → kin o ≠ 13 → H2 b = some o := fun {b o} q n => kp' _ _ q (ne_kin q tT.ht (by simpa [kin] using n))
        exact ⟨go hdb.hd (by simp [kin]), go hdb.hb (by simp [kin]), go hdb.hm (by simp [kin]), go hdb.hh (by simp [kin]), go hdb.hk (by simp [kin]), fun x hx => let ⟨v, dx, f, q⟩ := hdb.hw x hx; ⟨v, dx, f, go q (by simp [kin])⟩, hdb.nbm, hdb.nhk, hdb.fd, hdb.fb, hdb.fm, hdb.fh, hdb.fk, hdb.fw⟩
      have bk := hd1.bk
      have wf := hd1.wf
      rw [et] at bk wf
      refine k H2 ((Fr.same s1).trans ⟨fun x o e n => kp' x o e fun q => n (by rw [q]; exact tT.ft), fun _ z => z, fun _ z => .inl z⟩) (fun b o e kq => kp' b o (s1 b o e) (ne14 (s1 b o e) kq tT.ht)) ?_
      rw [eS]
      exact hd1.topRe (T' := dmT T (some w)) et rfl rfl rfl (doomTop_own w T.e) rfl rfl rfl (fun _ z => z) (fun b o e n1 n2 n3 _ => kp' b o e n3) (tT.doom kp' e2) d3 (bk.mv (fun x xs _ e => kp' _ _ e (ne_kin e tT.ht (by simp [kin]))) fun _ z => z) (wf_doom (e := T.e) wf)
end
end IC
namespace IC
open PySem L2 TL
/-- what the transactions of a list hold, once each, ascending -/
def spRecsG (c : Cs) (CW : Addr) (g : SG → Str → Bool) : Sp := fun vs H Q _ => ∃ (S : SG) (F : Addr → Prop), vs = [.ref S.d] ∧ DbG c CW H F S ∧ SzG S 1000 ∧
  ∀ (l : Addr) (ys : List Str) (H' : Hp), Same H H' → H l = none → H' l = some (.lst (ys.map V.str)) → PyProof.Rows.sortedS ys = true → ys.Nodup → (∀ z, z ∈ ys ↔ g S z = true) → Q (.ref l) H'
section
variable {P : Program} {w : World} {K : PySem.W.Frag} {mg : Str → Option Value} {base : Heap} {c : Cs} {CW : Addr}
/-- a filter of texts, sorted: it is what is asked -/
theorem recs_fact {S : SG} {H : Hp} {F : Addr → Prop} (h : DbG c CW H F S) (g : Str → Bool) (hg : ∀ z, g z = true → ∃ T ∈ S.ts, ofR T.e.own z ≠ []) {ys : List Str} (p : ys.Perm ((S.held.map (·.1)).filter g)) : ys.Nodup ∧ ∀ z, z ∈ ys ↔ g z = true := by
  refine ⟨p.nodup_iff.mpr (h.hn.sublist List.filter_sublist), fun z => ?_⟩
  rw [p.mem_iff, List.mem_filter]
  refine ⟨fun q => q.2, fun q => ⟨?_, q⟩⟩
  obtain ⟨T, hT, n⟩ := hg z q
  obtain ⟨x, hx⟩ := List.exists_mem_of_ne_nil _ n
  have hx := List.mem_filter.mp hx
  obtain ⟨y, hy, e⟩ := h.all T hT x hx.1
  exact List.mem_map.mpr ⟨y, hy, e.trans (of_decide_eq_true hx.2)⟩
theorem ok_held_recordsG {f : Addr} {fd : FuncData} (F : Fun K "held_records" "Database.held_records" s_Database_held_records f fd) (T : Bn mg) (B : DbTxt K mg c) (M_holds : MDf P w K mg base CX0 2 c.D "holds" ["self", "record"] [] (spLookL c CW 1 fun S us v => ∃ r, us = [.str r] ∧ v = .bl (S.mine r))) :
    FnOk P w K mg base CX0 3 f fd ["self"] (spRecsG c CW SG.mine) := by
  refine F.ok sc_Database_held_records (fun vs H Q E h => ?_) (fun cdv A outer s H vs Q E hr h => ?_)
  · obtain ⟨S, F, rfl, _⟩ := h
    rfl
  · obtain ⟨S, F, rfl, hd, sz, k⟩ := h
    refine ⟨_, (pss_one (ps_ret (pe_callB cr_sortLT (by rfl) T.sorted (by decide +kernel) (pa_cons (pe_lock (pe_lc (own := [("record", 1)]) (g := gName 1) rfl sc_Database_held_records.nd (pi_keys (pe_fld (pv 0) rfl)) (blkOk_by (N := ["self", "record"]) (sc := defScope s_Database_held_records) (by decide +kernel)) (fun _ _ _ _ _ => pg_name (i := 1) sc_Database_held_records.nd rfl (Or.inl rfl)) (fun _ _ _ _ _ => pts_one (pt_val (pe_md M_holds B.cD hr (by decide) (pv 0) (pa_cons (pv 1) pa_nil)))) (fun _ _ _ _ _ => (pv 1)))) pa_nil)))), ?_⟩
    have hdb := hd.db
    have zh := sz.2.2.1
    refine ⟨S.p.h, .dK (hd3 S.held), hdb.hh, trivial, fun od => ?_⟩
    have up0 : ∀ a o, H a = some o → a ≠ S.p.h → upd H S.p.h (.frz od (.dK (hd3 S.held))) a = some o := fun a o e n => by
      rw [upd_ne n]
      exact e
    have fz0 := (upd_same : upd H S.p.h (.frz od (.dK (hd3 S.held))) S.p.h = _)
    have hL : ∀ H', Same (upd H S.p.h (.frz od (.dK (hd3 S.held)))) H' → DbL c CW H' F S := fun H' s => ⟨H, hd, fun a o e n => s _ _ (up0 a o e n), .inr ⟨od, s _ _ fz0⟩⟩
    have hd0 := up0 _ _ hdb.hd (ne_kin hdb.hd hdb.hh (by simp [kin]))
    refine ⟨_, rfl, S.d, c.D, S.p.dx, _, _, rfl, hd0, B.cD, B.nH, rfl, S.p.h, od, rfl, .inl ⟨hd3 S.held, fz0, fun D hD => ?_⟩⟩
    refine lc_it walk_keys (fun i H' => H' D = some (.lst ((((S.held.map (·.1)).take i).filter S.mine).map V.str)) ∧ Same (upd H S.p.h (.frz od (.dK (hd3 S.held)))) H')
      ⟨by rw [upd_same]; rfl, Same.new hD⟩ (fun i H' _ q => q.2 _ _ fz0) (fun i x H1 H2 hi q y => ?_) fun H' q => ?_
    · obtain ⟨rfl, kk, kv, ek, rfl⟩ := y
      obtain ⟨qD, qs⟩ := q
      unfold hd3 at ek
      rw [List.getElem?_map] at ek
      obtain ⟨z, ez, ez2⟩ := Option.map_eq_some_iff.mp ek
      injection ez2 with ez2 ez3
      subst ez2
      have tk : (S.held.map (·.1)).take (i + 1) = (S.held.map (·.1)).take i ++ [z.1] := by
        rw [List.take_add_one, List.getElem?_map, ez]
        rfl
      have ll : (((S.held.map (·.1)).take i).filter S.mine).length ≤ 1000 := by
        have a : (((S.held.map (·.1)).take i).filter S.mine).length ≤ ((S.held.map (·.1)).take i).length := List.length_filter_le ..
        have b : ((S.held.map (·.1)).take i).length ≤ (S.held.map (·.1)).length := by rw [List.length_take]; exact Nat.min_le_right _ _
        rw [List.length_map] at b
        omega
      refine ⟨by simp [wipe], ?_⟩
      refine ⟨_, rfl, S.d, S.p.dx, _, rfl, qs _ _ hd0, rfl, _, rfl, S, F, [.str z.1], _, rfl, rfl, hL _ qs, sz, ⟨z.1, rfl, rfl⟩, _, rfl, ?_⟩
      by_cases eg : S.mine z.1 = true
      · rw [eg]
        refine iteT ⟨_, rfl, _, qD, small1000 (by rw [List.length_map]; exact ll), ?_, fun b o e => ?_⟩
        · rw [upd_same, tk, List.filter_append, List.filter_cons, if_pos eg, List.map_append]
          rfl
        · have n : b ≠ D := ne_of_none e hD
          rw [upd_ne n]
          exact qs b o e
      · rw [Bool.not_eq_true] at eg
        rw [eg]
        refine iteF ⟨?_, qs⟩
        rw [tk, List.filter_append, List.filter_cons, eg, qD]
        simp
    · obtain ⟨qD, qs⟩ := q
      have l1 : (hd3 S.held).length = (S.held.map (·.1)).length := by rw [len_hd3, List.length_map]
      rw [l1, List.take_length] at qD
      have nD : D ≠ S.p.h := (ne_of_none fz0 hD).symm
      refine ⟨qs _ _ fz0, D, _, rfl, SqL.of (by rw [upd_ne nD]; exact qD), fun ys p pm so np => ?_⟩
      have g1 := recs_fact hd S.mine (fun z q => by
        obtain ⟨T, e, n⟩ := SG.mine_iff.mp q
        exact ⟨T, SG.mem_ts.mpr (.inl e), n⟩) pm
      have s1 : Same H (upd H' S.p.h (.dK (hd3 S.held))) := fun b o e => by
        by_cases q : b = S.p.h
        · rw [q, upd_same, ← hdb.hh, ← q, e]
        · rw [upd_ne q]
          exact qs b o (up0 b o e q)
      exact k p ys _ (s1.trans (Same.new np)) (s1.free np) upd_same so g1.1 g1.2
theorem ok_outer_recordsG {f : Addr} {fd : FuncData} (F : Fun K "outer_records" "Database.outer_records" s_Database_outer_records f fd) (T : Bn mg) (B : DbTxt K mg c) (M_has_suspended : MDf P w K mg base CX0 2 c.D "has_suspended" ["self", "record"] [] (spLookL c CW 1 fun S us v => ∃ r, us = [.str r] ∧ v = .bl (S.wait r))) :
    FnOk P w K mg base CX0 3 f fd ["self"] (spRecsG c CW SG.wait) := by
  refine F.ok sc_Database_outer_records (fun vs H Q E h => ?_) (fun cdv A outer s H vs Q E hr h => ?_)
  · obtain ⟨S, F, rfl, _⟩ := h
    rfl
  · obtain ⟨S, F, rfl, hd, sz, k⟩ := h
    refine ⟨_, (pss_one (ps_ret (pe_callB cr_sortLT (by rfl) T.sorted (by decide +kernel) (pa_cons (pe_lock (pe_lc (own := [("record", 1)]) (g := gName 1) rfl sc_Database_outer_records.nd (pi_keys (pe_fld (pv 0) rfl)) (blkOk_by (N := ["self", "record"]) (sc := defScope s_Database_outer_records) (by decide +kernel)) (fun _ _ _ _ _ => pg_name (i := 1) sc_Database_outer_records.nd rfl (Or.inl rfl)) (fun _ _ _ _ _ => pts_one (pt_val (pe_md M_has_suspended B.cD hr (by decide) (pv 0) (pa_cons (pv 1) pa_nil)))) (fun _ _ _ _ _ => (pv 1)))) pa_nil)))), ?_⟩
    have hdb := hd.db
    have zh := sz.2.2.1
    refine ⟨S.p.h, .dK (hd3 S.held), hdb.hh, trivial, fun od => ?_⟩
    have up0 : ∀ a o, H a = some o → a ≠ S.p.h → upd H S.p.h (.frz od (.dK (hd3 S.held))) a = some o := fun a o e n => by
      rw [upd_ne n]
      exact e
    have fz0 := (upd_same : upd H S.p.h (.frz od (.dK (hd3 S.held))) S.p.h = _)
    have hL : ∀ H', Same (upd H S.p.h (.frz od (.dK (hd3 S.held)))) H' → DbL c CW H' F S := fun H' s => ⟨H, hd, fun a o e n => s _ _ (up0 a o e n), .inr ⟨od, s _ _ fz0⟩⟩
    have hd0 := up0 _ _ hdb.hd (ne_kin hdb.hd hdb.hh (by simp [kin]))
    refine ⟨_, rfl, S.d, c.D, S.p.dx, _, _, rfl, hd0, B.cD, B.nH, rfl, S.p.h, od, rfl, .inl ⟨hd3 S.held, fz0, fun D hD => ?_⟩⟩
    refine lc_it walk_keys (fun i H' => H' D = some (.lst ((((S.held.map (·.1)).take i).filter S.wait).map V.str)) ∧ Same (upd H S.p.h (.frz od (.dK (hd3 S.held)))) H')
      ⟨by rw [upd_same]; rfl, Same.new hD⟩ (fun i H' _ q => q.2 _ _ fz0) (fun i x H1 H2 hi q y => ?_) fun H' q => ?_
    · obtain ⟨rfl, kk, kv, ek, rfl⟩ := y
      obtain ⟨qD, qs⟩ := q
      unfold hd3 at ek
      rw [List.getElem?_map] at ek
      obtain ⟨z, ez, ez2⟩ := Option.map_eq_some_iff.mp ek
      injection ez2 with ez2 ez3
      subst ez2
      have tk : (S.held.map (·.1)).take (i + 1) = (S.held.map (·.1)).take i ++ [z.1] := by
        rw [List.take_add_one, List.getElem?_map, ez]
        rfl
      have ll : (((S.held.map (·.1)).take i).filter S.wait).length ≤ 1000 := by
        have a : (((S.held.map (·.1)).take i).filter S.wait).length ≤ ((S.held.map (·.1)).take i).length := List.length_filter_le ..
        have b : ((S.held.map (·.1)).take i).length ≤ (S.held.map (·.1)).length := by rw [List.length_take]; exact Nat.min_le_right _ _
        rw [List.length_map] at b
        omega
      refine ⟨by simp [wipe], ?_⟩
      refine ⟨_, rfl, S.d, S.p.dx, _, rfl, qs _ _ hd0, rfl, _, rfl, S, F, [.str z.1], _, rfl, rfl, hL _ qs, sz, ⟨z.1, rfl, rfl⟩, _, rfl, ?_⟩
      by_cases eg : S.wait z.1 = true
      · rw [eg]
        refine iteT ⟨_, rfl, _, qD, small1000 (by rw [List.length_map]; exact ll), ?_, fun b o e => ?_⟩
        · rw [upd_same, tk, List.filter_append, List.filter_cons, if_pos eg, List.map_append]
          rfl
        · have n : b ≠ D := ne_of_none e hD
          rw [upd_ne n]
          exact qs b o e
      · rw [Bool.not_eq_true] at eg
        rw [eg]
        refine iteF ⟨?_, qs⟩
        rw [tk, List.filter_append, List.filter_cons, eg, qD]
        simp
    · obtain ⟨qD, qs⟩ := q
      have l1 : (hd3 S.held).length = (S.held.map (·.1)).length := by rw [len_hd3, List.length_map]
      rw [l1, List.take_length] at qD
      have nD : D ≠ S.p.h := (ne_of_none fz0 hD).symm
      refine ⟨qs _ _ fz0, D, _, rfl, SqL.of (by rw [upd_ne nD]; exact qD), fun ys p pm so np => ?_⟩
      have g1 := recs_fact hd S.wait (fun z q => by
        obtain ⟨T, e, n⟩ := SG.wait_iff.mp q
        exact ⟨T, SG.mem_ts.mpr (.inr e), n⟩) pm
      have s1 : Same H (upd H' S.p.h (.dK (hd3 S.held))) := fun b o e => by
        by_cases q : b = S.p.h
        · rw [q, upd_same, ← hdb.hh, ← q, e]
        · rw [upd_ne q]
          exact qs b o (up0 b o e q)
      exact k p ys _ (s1.trans (Same.new np)) (s1.free np) upd_same so g1.1 g1.2
end
end IC
namespace IC
open PySem L2 TL
/-! ### what is owned may change; it grows by new places only -/
structure Chg (F F' : Addr → Prop) (H H' : Hp) : Prop where
  k : ∀ x o, H x = some o → ¬ F x → H' x = some o
  n : ∀ x, F' x → F x ∨ H x = none
section
variable {F F1 F2 G G1 : Addr → Prop} {H H1 H2 : Hp} {a : Addr} {o : HO}
theorem Fr.chg (a : Fr F F1 H H1) : Chg F F1 H H1 := ⟨a.k, a.n⟩
theorem Chg.refl (F : Addr → Prop) (H : Hp) : Chg F F H H := ⟨fun _ _ e _ => e, fun _ h => .inl h⟩
theorem Chg.same (s : Same H H1) : Chg F F H H1 := ⟨fun x o e _ => s x o e, fun _ h => .inl h⟩
theorem Chg.trans (a : Chg F F1 H H1) (b : Chg F1 F2 H1 H2) : Chg F F2 H H2 := by
  refine ⟨fun x o e n => b.k x o (a.k x o e n) fun f => ?_, fun x f => ?_⟩
  · rcases a.n x f with q | q
    · exact n q
    · rw [q] at e
      cases e
  · rcases b.n x f with q | q
    · exact a.n x q
    · by_cases f0 : F x
      · exact .inl f0
      · cases e : H x with
        | none => exact .inr rfl
        | some u =>
          rw [a.k x u e f0] at q
          cases q
/-- what is none of it stands, and is none of it after -/
theorem Chg.off (c : Chg F F1 H H1) (h : H a = some o) (n : ¬ F a) : H1 a = some o ∧ ¬ F1 a := by
  refine ⟨c.k _ _ h n, fun f => ?_⟩
  rcases c.n a f with q | q
  · exact n q
  · rw [h] at q
    cases q
theorem Chg.tight (c : Chg F F1 H H1) : Chg F (fun x => F1 x ∧ H1 x ≠ none) H H1 := ⟨c.k, fun x f => c.n x f.1⟩
theorem Chg.sub (c : Chg F F1 H H1) (h : ∀ x, F x → G x) (g : ∀ x, G1 x → F1 x ∨ G x ∨ H x = none) : Chg G G1 H H1 := ⟨fun x o e n => c.k x o e fun f => n (h x f), fun x f => by
  rcases g x f with q | q | q
  · exact (c.n x q).imp (h x) id
  · exact .inl q
  · exact .inr q⟩
theorem some_ne {H : Hp} {x : Addr} {o : HO} (e : H x = some o) : H x ≠ none := by rw [e]; simp
end
theorem TrG.tight {c : Cs} {CW : Addr} {H : Hp} {F : Addr → Prop} {p : DbP} {T : Tr} (h : TrG c CW H F p T) : TrG c CW H (fun x => F x ∧ H x ≠ none) p T :=
  { h with
    ft := ⟨h.ft, some_ne h.ht⟩
    fo := ⟨h.fo, some_ne h.ho⟩
    fs := ⟨h.fs, some_ne h.hs⟩
    fw := fun x hx => ⟨h.fw x hx, by obtain ⟨dx, f, e⟩ := h.hw x hx; exact some_ne e⟩ }
theorem BkR.tight {H : Hp} {F : Addr → Prop} : ∀ {l : List Addr} {m : List (Str × V)}, BkR H F l m → BkR H (fun x => F x ∧ H x ≠ none) l m
  | [], [], _ => trivial
  | [], _ :: _, h => h.elim
  | _ :: _, [], h => h.elim
  | _ :: _, _ :: _, h => ⟨⟨h.1.1, h.1.2, some_ne h.1.1⟩, BkR.tight h.2⟩
theorem DbG.tight {c : Cs} {CW : Addr} {H : Hp} {F : Addr → Prop} {S : SG} (h : DbG c CW H F S) : DbG c CW H (fun x => F x ∧ H x ≠ none) S := by
  refine ⟨⟨h.db.hd, h.db.hb, h.db.hm, h.db.hh, h.db.hk, h.db.hw, h.db.nbm, h.db.nhk, ⟨h.db.fd, some_ne h.db.hd⟩, ⟨h.db.fb, some_ne h.db.hb⟩, ⟨h.db.fm, some_ne h.db.hm⟩, ⟨h.db.fh, some_ne h.db.hh⟩, ⟨h.db.fk, some_ne h.db.hk⟩, fun x hx => ⟨h.db.fw x hx, ?_⟩⟩,
    fun T hT => (h.tr T hT).tight, h.hl, h.all, h.owd, h.one, h.nl, fun z hz => ⟨h.fl z hz, ?_⟩, h.ap, h.bk.tight, h.wf, h.hn⟩
  · obtain ⟨v, dx, f, e⟩ := h.db.hw x hx
    exact some_ne e
  · obtain ⟨T, hT, n⟩ := h.owd z hz
    exact some_ne (h.hl T hT z hz n)
theorem Fts.tight {CW : Addr} {H : Hp} {F : Addr → Prop} {made : List V} {W : List Fw} (h : Fts CW H F made W) : Fts CW H (fun x => F x ∧ H x ≠ none) made W :=
  ⟨h.eq, h.nd, h.at_, fun x hx => ⟨h.fw x hx, by obtain ⟨dx, hv, e⟩ := h.at_ x hx; exact some_ne e⟩⟩
/-! ### sizes -/
def SG.load (S : SG) : Nat := S.kept.length + (S.ts.map fun T => T.e.own.length).sum
structure SzL (S : SG) (n : Nat) : Prop where
  m : S.made.length ≤ n
  b : S.bl.length ≤ n
  h : S.held.length ≤ n
  l : S.load ≤ n
  e : ∀ T ∈ S.ts, T.e.length ≤ n
theorem le_sum {l : List Nat} {x : Nat} (h : x ∈ l) : x ≤ l.sum := by
  induction l with
  | nil => cases h
  | cons y l ih =>
    rw [List.sum_cons]
    rcases List.mem_cons.mp h with rfl | h
    · omega
    · have := ih h
      omega
theorem SzL.g {S : SG} {n : Nat} (h : SzL S n) : SzG S n := by
  have hl := h.l
  unfold SG.load at hl
  refine ⟨h.m, h.b, h.h, by omega, fun T hT => ⟨?_, h.e T hT⟩⟩
  have := le_sum (List.mem_map.mpr ⟨T, hT, rfl⟩ : T.e.own.length ∈ S.ts.map fun T => T.e.own.length)
  omega
theorem SzL.up {S : SG} {n m : Nat} (h : SzL S n) (e : n ≤ m) : SzL S m := ⟨by have := h.m; omega, by have := h.b; omega, by have := h.h; omega, by have := h.l; omega, fun T hT => by have := h.e T hT; omega⟩
theorem ts_of (S : SG) : S.ts = (S.top :: S.sus).filterMap id := by
  unfold SG.ts
  cases S.top <;> rfl
theorem load_of (S : SG) : S.load = S.kept.length + ((S.top :: S.sus).map fun o => (oT o).length).sum := by
  unfold SG.load
  rw [ts_of]
  congr 1
  generalize S.top :: S.sus = l
  induction l with
  | nil => rfl
  | cons o l ih =>
    cases o with
    | none =>
      rw [List.map_cons, List.sum_cons, ← ih]
      show _ = 0 + _
      rw [Nat.zero_add]
      rfl
    | some T =>
      rw [List.map_cons, List.sum_cons, ← ih]
      rfl
/-- entering adds one to what is counted -/
theorem EntR.sz {S S' : SG} {k : Ek} {n : Nat} (h : EntR S S' k) (z : SzL S n) (em : S'.made = S.made) (ek : S'.kept = S.kept) (eh : S'.held = S.held) (eb : S'.bl.length = S.bl.length + 1) : SzL S' (n + 1) := by
  have hl := z.l
  rw [load_of] at hl
  have key : ∀ S' : SG, S'.kept = S.kept → ((S'.top :: S'.sus).map fun o => (oT o).length).sum = ((S.top :: S.sus).map fun o => (oT o).length).sum → (∀ T ∈ S'.ts, T.e.length ≤ n + 1) → S'.made = S.made → S'.held = S.held → S'.bl.length = S.bl.length + 1 → SzL S' (n + 1) := by
    intro S' ek e1 e2 em eh eb
    have zb := z.b
    refine ⟨by rw [em]; exact Nat.le_succ_of_le z.m, by omega, by rw [eh]; exact Nat.le_succ_of_le z.h, ?_, e2⟩
    rw [load_of, ek, e1]
    omega
  have ze : ∀ T, (S.top = some T ∨ some T ∈ S.sus) → T.e.length ≤ n := fun T h => z.e T (SG.mem_ts.mpr h)
  cases k with
  | noth =>
    obtain ⟨e1, ⟨e2, e3, _⟩ | ⟨e2, e3, _⟩⟩ := h
    · refine key S' ek (by rw [e1, e2, e3]) (fun T hT => ?_) em eh eb
      rw [SG.mem_ts, e1, e3] at hT
      exact Nat.le_succ_of_le (ze T (by rw [e2]; exact hT))
    · refine key S' ek (by rw [e1, e3, List.map_cons, List.sum_cons]; exact Nat.zero_add _) (fun T hT => ?_) em eh eb
      rw [SG.mem_ts, e1, e3] at hT
      rcases hT with q | q
      · cases q
      · exact Nat.le_succ_of_le (ze T (by simpa [eq_comm] using q))
  | dooms =>
    obtain ⟨e1, e2, _⟩ := h
    refine key S' ek (by rw [e1, e2]) (fun T hT => ?_) em eh eb
    rw [SG.mem_ts, e1, e2] at hT
    exact Nat.le_succ_of_le (ze T hT)
  | fresh =>
    obtain ⟨t, q, e1, e2, _⟩ := h
    refine key S' ek (by rw [e1, e2, List.map_cons, List.sum_cons]; exact Nat.zero_add _) (fun T hT => ?_) em eh eb
    rw [SG.mem_ts, e1, e2] at hT
    rcases hT with q | q
    · cases q
      exact Nat.succ_le_succ (Nat.zero_le _)
    · exact Nat.le_succ_of_le (ze T (by simpa [eq_comm] using q))
  | inner =>
    obtain ⟨T0, e0, e1, e2, _⟩ := h
    refine key S' ek ?_ (fun T hT => ?_) em eh eb
    · rw [e1, e2, e0, List.map_cons, List.sum_cons, List.map_cons, List.sum_cons]
      congr 1
      show (En.own (⟨none, []⟩ :: T0.e)).length = _
      rw [own_cons]
      simp [oT, eT]
    · rw [SG.mem_ts, e1, e2] at hT
      rcases hT with q | q
      · cases q
        exact Nat.succ_le_succ (ze T0 (.inl e0))
      · exact Nat.le_succ_of_le (ze T (.inr q))
  | miss => exact h.elim
  | pres => exact h.elim
  | doom w => exact h.elim
theorem len_foldW (own : List Wr) : ∀ kept : List Wr, (own.foldl putW kept).length ≤ kept.length + own.length := by
  induction own with
  | nil => exact fun _ => Nat.le_refl _
  | cons x l ih =>
    intro kept
    have := ih (putW kept x)
    have := len_putW kept x
    rw [List.foldl_cons, List.length_cons]
    omega
/-- leaving adds nothing to what is counted -/
theorem LvR.sz {S S' : SG} {err : Option Str} {goes : Bool} {r : Str} {ks us : List Wr} {n : Nat} (h : LvR S S' err goes r ks us) (le : LvE S S' ks) (z : SzL S n) : SzL S' n := by
  have hl := z.l
  rw [load_of] at hl
  have lf := len_foldW ks S.kept
  have ze : ∀ T, (S.top = some T ∨ some T ∈ S.sus) → T.e.length ≤ n := fun T h => z.e T (SG.mem_ts.mpr h)
  have key : ((S'.top :: S'.sus).map fun o => (oT o).length).sum + ks.length ≤ ((S.top :: S.sus).map fun o => (oT o).length).sum → (∀ T, (S'.top = some T ∨ some T ∈ S'.sus) → T.e.length ≤ n) → SzL S' n := by
    intro e1 e2
    have lb := le.bl
    have zb := z.b
    have lh := le.held
    have zh := z.h
    refine ⟨by rw [le.made]; exact z.m, by omega, by omega, ?_, fun T hT => e2 T (SG.mem_ts.mp hT)⟩
    rw [load_of, le.kept]
    omega
  unfold LvR at h
  cases es : S.sorts with
  | nil => rw [es] at h; exact h.elim
  | cons o s =>
    rw [es] at h
    cases o with
    | plain =>
      obtain ⟨_, e1, e2, e3, _, rfl, _⟩ := h
      refine key (by rw [e2, e3, e1]; exact Nat.le_refl _) fun T hT => ?_
      rw [e2, e3] at hT
      exact ze T (by rw [e1]; exact hT)
    | outside =>
      obtain ⟨_, e1, ⟨T0, e2, e3⟩, _, rfl, _⟩ := h
      refine key ?_ fun T hT => ?_
      · rw [e1, e2, e3]
        show _ ≤ 0 + _
        rw [Nat.zero_add]
        exact Nat.le_refl _
      · rw [e3] at hT
        refine ze T (.inr ?_)
        rw [e2]
        simpa [eq_comm] using hT
    | joined =>
      obtain ⟨_, e1, ⟨T0, e2, e3⟩, _, rfl, _⟩ := h
      have o0 : (oT (some (dmT T0 err))).length = (oT (some T0)).length ∧ (dmT T0 err).e.length = T0.e.length := by
        cases err with
        | none => exact ⟨rfl, rfl⟩
        | some w =>
          refine ⟨?_, ?_⟩
          · show (En.own (doomTop w T0.e)).length = (En.own T0.e).length
            rw [doomTop_own]
          · show (doomTop w T0.e).length = T0.e.length
            cases T0.e <;> rfl
      refine key ?_ fun T hT => ?_
      · rw [e3, e1, e2, List.map_cons, List.map_cons, List.sum_cons, List.sum_cons, o0.1]
        exact Nat.le_refl _
      · rw [e3, e1] at hT
        rcases hT with q | q
        · injection q with q
          rw [← q, o0.2]
          exact ze T0 (.inl e2)
        · exact ze T (.inr q)
    | level =>
      obtain ⟨T0, l, l2, e, e1, e2, _, e4, q⟩ := h
      have z0 := ze T0 (.inl e1)
      rw [e2] at z0
      rcases q with ⟨_, e5, rfl, _, _⟩ | ⟨_, _, e5, rfl, _, _⟩
      · refine key ?_ fun T hT => ?_
        · rw [e5, e4, e1, List.map_cons, List.map_cons, List.sum_cons, List.sum_cons]
          have : (oT (some ⟨T0.t, T0.q, l2 :: e⟩)).length ≤ (oT (some T0)).length := by
            show (En.own (l2 :: e)).length ≤ (En.own T0.e).length
            rw [e2, own_cons l, List.length_append]
            omega
          show _ + 0 ≤ _
          omega
        · rw [e5, e4] at hT
          rcases hT with q | q
          · injection q with q
            rw [← q]
            exact Nat.le_of_succ_le z0
          · exact ze T (.inr q)
      · refine key ?_ fun T hT => ?_
        · rw [e5, e4, e1, List.map_cons, List.map_cons, List.sum_cons, List.sum_cons]
          have : (oT (some ⟨T0.t, T0.q, ⟨l2.why, l2.ws ++ l.ws⟩ :: e⟩)).length = (oT (some T0)).length := by
            show (En.own (⟨l2.why, l2.ws ++ l.ws⟩ :: e)).length = (En.own T0.e).length
            rw [e2, own_merge]
          show _ + 0 ≤ _
          omega
        · rw [e5, e4] at hT
          rcases hT with q | q
          · injection q with q
            rw [← q]
            exact Nat.le_of_succ_le z0
          · exact ze T (.inr q)
    | base =>
      obtain ⟨T0, l, o, e1, e2, e3, e4, _, q⟩ := h
      have ow : oT (some T0) = l.ws := by
        show En.own T0.e = l.ws
        rw [e2, own_cons]
        rfl
      have kl : ks.length ≤ l.ws.length := by
        rcases q with ⟨_, rfl, _⟩ | ⟨_, _, _, rfl, _⟩ | ⟨_, _, _, rfl, _⟩
        · exact Nat.zero_le _
        · exact Nat.le_refl _
        · exact Nat.zero_le _
      refine key ?_ fun T hT => ?_
      · rw [e4, e3, e1, List.map_cons (l := o :: S'.sus), List.sum_cons, ow]
        omega
      · rw [e4] at hT
        refine ze T (.inr ?_)
        rw [e3]
        simpa [eq_comm] using hT
/-- a doom changes nothing of what is counted -/
theorem SG.doomed_sz {S : SG} {w : Str} {n : Nat} (z : SzL S n) : SzL (S.doomed w) n := by
  have hl := z.l
  rw [load_of] at hl
  cases et : S.top with
  | none =>
    have es : S.doomed w = S := by
      obtain ⟨d, p, bl, made, held, kept, top, sus, sorts⟩ := S
      have et : top = none := et
      subst et
      rfl
    rw [es]
    exact z
  | some T0 =>
    have es : S.doomed w = { S with top := some (dmT T0 (some w)) } := by unfold SG.doomed; rw [et]; rfl
    rw [es]
    refine ⟨z.m, z.b, z.h, ?_, fun T hT => ?_⟩
    · rw [load_of]
      rw [et, List.map_cons, List.sum_cons] at hl
      show S.kept.length + (List.map (fun o => (oT o).length) (some (dmT T0 (some w)) :: S.sus)).sum ≤ n
      rw [List.map_cons, List.sum_cons]
      have : (oT (some (dmT T0 (some w)))).length = (oT (some T0)).length := by
        show (En.own (doomTop w T0.e)).length = (En.own T0.e).length
        rw [doomTop_own]
      omega
    · rcases SG.mem_ts.mp hT with q | q
      · injection q with q
        rw [← q]
        show (doomTop w T0.e).length ≤ n
        have := z.e T0 (SG.topMem et)
        have e : (doomTop w T0.e).length = T0.e.length := by cases T0.e <;> rfl
        omega
      · exact z.e T (SG.mem_ts.mpr (.inr q))
/-- a write adds one to what is counted -/
theorem put_sz {S S' : SG} {a : Addr} {r : Str} {v : V} {n : Nat} (z : SzL S n) (ne : ∀ T ∈ S.ts, T.e ≠ []) (eb : S'.bl = S.bl) (em : S'.made = S.made ++ [.ref a]) (es : S'.sus = S.sus)
    (h : match S.top with
      | none => S'.top = none ∧ S'.kept = putW S.kept ⟨a, r, v⟩ ∧ S'.held = S.held
      | some T => S'.top = some (T.put ⟨a, r, v⟩) ∧ S'.kept = S.kept ∧ S'.held.length ≤ S.held.length + 1) : SzL S' (n + 1) := by
  have hl := z.l
  rw [load_of] at hl
  have zm := z.m
  have zb := z.b
  have zh := z.h
  have ml : S'.made.length ≤ n + 1 := by rw [em, List.length_append, List.length_singleton]; omega
  have ze : ∀ T, (S.top = some T ∨ some T ∈ S.sus) → T.e.length ≤ n := fun T h => z.e T (SG.mem_ts.mpr h)
  cases et : S.top with
  | none =>
    rw [et] at h hl
    obtain ⟨h1, h2, h3⟩ := h
    have := len_putW S.kept ⟨a, r, v⟩
    refine ⟨ml, by rw [eb]; omega, by rw [h3]; omega, ?_, fun T hT => ?_⟩
    · rw [load_of, h1, h2, es]
      omega
    · rw [SG.mem_ts, h1, es] at hT
      exact Nat.le_succ_of_le (ze T (by rw [et]; exact hT))
  | some T0 =>
    rw [et] at h hl
    obtain ⟨h1, h2, h3⟩ := h
    have n0 := ne T0 (SG.topMem et)
    have ow : (oT (some (T0.put ⟨a, r, v⟩))).length = (oT (some T0)).length + 1 := by
      show (En.own (putTop _ T0.e)).length = (En.own T0.e).length + 1
      rw [putTop_own n0, List.length_append]
      rfl
    rw [List.map_cons, List.sum_cons] at hl
    refine ⟨ml, by rw [eb]; omega, by omega, ?_, fun T hT => ?_⟩
    · rw [load_of, h1, h2, es, List.map_cons, List.sum_cons, ow]
      omega
    · rw [SG.mem_ts, h1, es] at hT
      rcases hT with q | q
      · injection q with q
        rw [← q]
        show (putTop _ T0.e).length ≤ n + 1
        have e : (putTop ⟨a, r, v⟩ T0.e).length = T0.e.length := by cases T0.e <;> rfl
        have := ze T0 (.inl et)
        omega
      · exact Nat.le_succ_of_le (ze T (.inr q))
end IC
namespace IC
open PySem L2 TL
section
variable {P : Program} {w : World} {K : PySem.W.Frag} {mg : Str → Option Value} {base : Heap} {c : Cs} {CW : Addr}
theorem ok_is_openG {f : Addr} {fd : FuncData} (F : Fun K "is_open" "Database.is_open" s_Database_is_open f fd) (B : DbTxt K mg c) : FnOk P w K mg base CX0 1 f fd ["self"] (spLookG c CW 0 fun S _ v => v = .bl S.top.isSome) := by
  refine F.ok sc_Database_is_open (fun vs H Q E h => ?_) (fun cdv A outer s H vs Q E hr h => ?_)
  · obtain ⟨S, F, us, v, rfl, hu, _⟩ := h
    simpa using hu
  · obtain ⟨S, F, us, v, rfl, hu, hd, hz, rfl, k⟩ := h
    obtain rfl := List.eq_nil_of_length_eq_zero hu
    refine ⟨_, (pss_one (ps_ret (pe_cmpR op_notN (pe_fld (pv 0) rfl) pe_non (nomark _)))), ?_⟩
    refine ⟨_, rfl, S.d, c.D, S.p.dx, _, vT S.top, rfl, hd.db.hd, B.cD, B.nP, rfl, rfl, ?_⟩
    cases e : S.top with
    | none =>
      rw [e] at k
      exact k
    | some T =>
      rw [e] at k
      exact k
end
end IC
namespace IC
open PySem L2 TL
section
variable {P : Program} {w : World} {K : PySem.W.Frag} {mg : Str → Option Value} {base : Heap} {c : Cs} {CW : Addr}
theorem ok_levelsG {f : Addr} {fd : FuncData} (F : Fun K "levels" "Database.levels" s_Database_levels f fd) (T : Bn mg) (B : DbTxt K mg c) : FnOk P w K mg base CX0 1 f fd ["self"] (spLookG c CW 0 fun S _ v => v = .int (eT S.top).length) := by
  refine F.ok sc_Database_levels (fun vs H Q E h => ?_) (fun cdv A outer s H vs Q E hr h => ?_)
  · obtain ⟨S, F, us, v, rfl, hu, _⟩ := h
    simpa using hu
  · obtain ⟨S, F, us, v, rfl, hu, hd, hz, rfl, k⟩ := h
    obtain rfl := List.eq_nil_of_length_eq_zero hu
    refine ⟨_, (pss_cons (ps_if (pt_cmpR op_isN (pe_fld (pv 0) rfl) pe_non (nomark _))
  (pss_one (ps_ret pe_int))
  pss_nil)
  (pss_one (ps_ret (pe_callB call_len_seq (by rfl) T.len PySem.boot_len (pa_cons (pe_fld (pe_fld (pv 0) rfl) rfl) pa_nil))))), ?_⟩
    have hdb := hd.db
    refine ⟨_, rfl, S.d, c.D, S.p.dx, _, vT S.top, rfl, hdb.hd, B.cD, B.nP, rfl, rfl, _, rfl, ?_⟩
    cases e : S.top with
    | none =>
      rw [e] at k
      exact k
    | some T =>
      rw [e] at k hdb
      have tT := hd.tr T (SG.topMem e)
      refine ⟨_, rfl, S.d, c.D, S.p.dx, _, _, rfl, hdb.hd, B.cD, B.nP, rfl, T.t, c.T, T.q.dx, _, _, rfl, tT.ht, B.cT, B.nS, rfl, T.q.s, _, rfl, .inl (SqL.of tT.hs), ?_⟩
      rw [List.length_map, starts_len]
      exact k
end
end IC
namespace IC
open PySem L2 TL
section
variable {P : Program} {w : World} {K : PySem.W.Frag} {mg : Str → Option Value} {base : Heap} {c : Cs} {CW : Addr}
theorem ok_depthG {f : Addr} {fd : FuncData} (F : Fun K "depth" "Database.depth" s_Database_depth f fd) (T : Bn mg) (B : DbTxt K mg c) : FnOk P w K mg base CX0 1 f fd ["self"] (spLookG c CW 0 fun S _ v => v = .int S.bl.length) := by
  refine F.ok sc_Database_depth (fun vs H Q E h => ?_) (fun cdv A outer s H vs Q E hr h => ?_)
  · obtain ⟨S, F, us, v, rfl, hu, _⟩ := h
    simpa using hu
  · obtain ⟨S, F, us, v, rfl, hu, hd, hz, rfl, k⟩ := h
    obtain rfl := List.eq_nil_of_length_eq_zero hu
    refine ⟨_, (pss_one (ps_ret (pe_callB call_len_seq (by rfl) T.len PySem.boot_len (pa_cons (pe_fld (pv 0) rfl) pa_nil)))), ?_⟩
    refine ⟨_, rfl, S.d, c.D, S.p.dx, _, _, rfl, hd.db.hd, B.cD, B.nB, rfl, S.p.b, _, rfl, .inl (SqL.of hd.db.hb), ?_⟩
    rw [List.length_map]
    exact k
end
end IC
namespace IC
open PySem L2 TL
/-! ### a database with its writes and their fates -/
structure Dk (c : Cs) (CW : Addr) (H : Hp) (F : Addr → Prop) (S : SG) (W : List Fw) (n : Nat) : Prop where
  db : DbG c CW H F S
  ft : Fts CW H F S.made W
  sz : SzL S n
  al : ∀ x, F x → H x ≠ none
section
variable {c : Cs} {CW : Addr} {H H' : Hp} {F F' : Addr → Prop} {S S' : SG} {W : List Fw} {n m : Nat}
theorem Dk.mv (D : Dk c CW H F S W n) (k : ∀ x o, F x → H x = some o → H' x = some o) : Dk c CW H' F S W n :=
  ⟨D.db.mv k fun _ z => z, D.ft.mv k fun _ z => z, D.sz, fun x f => by
    cases e : H x with
    | none => exact absurd e (D.al x f)
    | some u => rw [k x u f e]; simp⟩
theorem Dk.same (D : Dk c CW H F S W n) (s : Same H H') : Dk c CW H' F S W n := D.mv fun x o _ e => s x o e
theorem Dk.up (D : Dk c CW H F S W n) (e : n ≤ m) : Dk c CW H F S W m := ⟨D.db, D.ft, D.sz.up e, D.al⟩
theorem Dk.len (D : Dk c CW H F S W n) : W.length ≤ n := by
  have := D.sz.m
  rw [D.ft.eq, List.length_map] at this
  exact this
abbrev tgt (F : Addr → Prop) (H : Hp) : Addr → Prop := fun x => F x ∧ H x ≠ none
theorem Dk.mk' (db : DbG c CW H F S) (ft : Fts CW H F S.made W) (sz : SzL S n) : Dk c CW H (tgt F H) S W n := ⟨db.tight, ft.tight, sz, fun _ f => f.2⟩
theorem Dk.put {a : Addr} {r : Str} {v : V} {f : Str} (D : Dk c CW H F S W n) (fr : Fr F F' H H') (db : DbG c CW H' F' S') (na : H a = none) (ws : Wst H H') (fa : F' a) (ha : ∃ (dx : Addr) (hv : V), H' a = some (.ins CW dx (wrf r v hv (.str f)))) (es : S'.sus = S.sus) (eb : S'.bl = S.bl) (em : S'.made = S.made ++ [.ref a])
    (ht : match S.top with
      | none => S'.top = none ∧ S'.kept = putW S.kept ⟨a, r, v⟩ ∧ S'.held = S.held
      | some T => S'.top = some (T.put ⟨a, r, v⟩) ∧ S'.kept = S.kept ∧ S'.held.length ≤ S.held.length + 1) : Dk c CW H' (tgt F' H') S' (W ++ [(⟨a, r, v⟩, f)]) (n + 1) := by
  refine Dk.mk' db ?_ (put_sz D.sz (fun T hT => (D.db.tr T hT).ne) eb em es ht)
  rw [em]
  exact D.ft.put ws na ha fr.s fa
theorem Dk.ent {k : Ek} (D : Dk c CW H F S W n) (fr : Fr F F' H H') (db : DbG c CW H' F' S') (ws : Wst H H') (em : S'.made = S.made) (ek : S'.kept = S.kept) (eh : S'.held = S.held) (eb : S'.bl.length = S.bl.length + 1) (er : EntR S S' k) : Dk c CW H' (tgt F' H') S' W (n + 1) := by
  refine Dk.mk' db ?_ (er.sz D.sz em ek eh eb)
  rw [em]
  exact D.ft.st ws fr.s
theorem Dk.leave {err : Option Str} {goes : Bool} {r : Str} {ks us : List Wr} (D : Dk c CW H F S W n) (db : DbG c CW H' F S') (le : LvE S S' ks) (lr : LvR S S' err goes r ks us) (ft : FtR CW H H' F S.made ks us) : Dk c CW H' (tgt F H') S' (fateOf us "undone" (fateOf ks "kept" W)) n := by
  refine Dk.mk' db ?_ (lr.sz le D.sz)
  rw [le.made]
  exact ft W D.ft
theorem Dk.doom {w : Str} (D : Dk c CW H F S W n) (fr : Fr F F H H') (ws : Wst H H') (db : DbG c CW H' F (S.doomed w)) : Dk c CW H' (tgt F H') (S.doomed w) W n :=
  Dk.mk' db (D.ft.st ws fr.s) (SG.doomed_sz D.sz)
/-- nothing is doomed -/
def Calm (S : SG) : Prop := ∀ T ∈ S.ts, ∀ l ∈ T.e, l.why = none
theorem Calm.why (h : Calm S) : (eT S.top).why = none := by
  cases e : S.top with
  | none => rfl
  | some T =>
    show T.e.why = none
    cases q : T.e with
    | nil => rfl
    | cons l ls => exact h T (SG.topMem e) l (by rw [q]; exact List.mem_cons_self)
theorem Calm.of (h : Calm S) (q : ∀ T, (S'.top = some T ∨ some T ∈ S'.sus) → (S.top = some T ∨ some T ∈ S.sus) ∨ ∀ l ∈ T.e, l.why = none) : Calm S' := fun T hT l hl => by
  rcases q T (SG.mem_ts.mp hT) with z | z
  · exact h T (SG.mem_ts.mpr z) l hl
  · exact z l hl
theorem Calm.ent {k : Ek} (h : Calm S) (er : EntR S S' k) : Calm S' := by
  refine h.of fun T hT => ?_
  cases k with
  | noth =>
    obtain ⟨e1, ⟨e2, e3, _⟩ | ⟨e2, e3, _⟩⟩ := er
    · rw [e1, e3] at hT
      exact .inl (.inr (hT.elim (fun q => by cases q) id))
    · rw [e1, e3] at hT
      rcases hT with q | q
      · cases q
      · exact .inl (by simpa [eq_comm] using q)
  | dooms =>
    obtain ⟨e1, e2, _⟩ := er
    rw [e1, e2] at hT
    exact .inl hT
  | fresh =>
    obtain ⟨t, q, e1, e2, _⟩ := er
    rw [e1, e2] at hT
    rcases hT with q | q
    · cases q
      exact .inr (by simp)
    · exact .inl (by simpa [eq_comm] using q)
  | inner =>
    obtain ⟨T0, e0, e1, e2, _⟩ := er
    rw [e1, e2] at hT
    rcases hT with q | q
    · cases q
      refine .inr fun l hl => ?_
      rcases List.mem_cons.mp hl with rfl | hl
      · rfl
      · exact h T0 (SG.topMem e0) l hl
    · exact .inl (.inr q)
  | miss => exact er.elim
  | pres => exact er.elim
  | doom w => exact er.elim
theorem Calm.put {x : Wr} (h : Calm S) (es : S'.sus = S.sus) (ht : match S.top with
      | none => S'.top = none
      | some T => S'.top = some (T.put x)) : Calm S' := by
  refine h.of fun T hT => ?_
  rw [es] at hT
  rcases hT with q | q
  · cases et : S.top with
    | none => rw [et] at ht; rw [ht] at q; cases q
    | some T0 =>
      rw [et] at ht
      rw [ht] at q
      cases q
      refine .inr fun l hl => ?_
      have h0 := h T0 (SG.topMem et)
      have hl : l ∈ putTop x T0.e := hl
      cases e : T0.e with
      | nil => rw [e] at hl; cases hl
      | cons l0 ls =>
        rw [e] at hl h0
        rcases List.mem_cons.mp hl with rfl | hl
        · exact h0 l0 List.mem_cons_self
        · exact h0 l (List.mem_cons_of_mem _ hl)
  · exact .inl (.inr q)
end
end IC
namespace IC
open PySem L2 TL PyProof.Rows
/-! ### try as in b_try, where the errors' contexts are None -/
inductive ClOkN (X : Cx) : List ExceptHandler → List Cl → Prop
  | nil : ClOkN X [] []
  | nm {x n : Str} {c : Value} {i : Nat} {ts : Addr → Value → Option Addr → TS} {b0 : Stmt} {st : List Stmt} {np pos : Pos} {hs : List ExceptHandler} {l : List Cl} (hi : X.N[i]? = some n) (hl : X.env.kindOf n = some .local) (hc : Names X x c)
      (su : ∀ (a : Addr) (oe : Obj) (cls : Value) (d : Option Addr) (pn : List (Addr × Obj)), Zc cls d oe → (∃ vs, oe.data = .fields vs ∧ vs[2]? = some .none) → PSs (X.suite a ((a, oe) :: pn)) (b0 :: st) (ts a cls d)) (r : ClOkN X hs l) :
      ClOkN X (.ExceptHandler (some (.Name x np)) (some n) (b0 :: st) pos :: hs) ((c, some i, ts) :: l)
  | no {x : Str} {c : Value} {ts : Addr → Value → Option Addr → TS} {b0 : Stmt} {st : List Stmt} {np pos : Pos} {hs : List ExceptHandler} {l : List Cl} (hc : Names X x c)
      (su : ∀ (a : Addr) (oe : Obj) (cls : Value) (d : Option Addr) (pn : List (Addr × Obj)), Zc cls d oe → (∃ vs, oe.data = .fields vs ∧ vs[2]? = some .none) → PSs (X.suite a ((a, oe) :: pn)) (b0 :: st) (ts a cls d)) (r : ClOkN X hs l) :
      ClOkN X (.ExceptHandler (some (.Name x np)) none (b0 :: st) pos :: hs) ((c, none, ts) :: l)
/-- the name of a clause is asked: its class -/
theorem clause_nameN {X : Cx} {Y : Cx} {x : Str} {c : Value} {np : Pos} {pins : List (Addr × Obj)} {σ : L2.St} {H : Hp} {s : Shared} {Q E : Value → Shared → Prop} (hc : Names X x c) (J : Inv Y pins σ H s) (e1 : Y.env = X.env) (e2 : Y.mg = X.mg) (q : Q c s) :
    wpAny (model Y.prog Y.w) Y.A (eval (.Name x np) X.env) Q E s := by
  obtain ⟨h1, h2, h3⟩ := hc
  rw [← e1]
  have g : Gl Y x := by unfold Gl at h1 ⊢; rw [e1]; exact h1
  cases h3 with
  | inl h => exact ld_glob J g (by rw [e2]; exact h) q h2
  | inr h => exact ld_blt J g (by rw [e2]; exact And.left h) (And.left (And.right h)) q (And.right (And.right h)) h2
section
variable {X : Cx} {body : List Stmt} {h0 : ExceptHandler} {hs : List ExceptHandler} {l : List Cl} {pos : Pos} {tb : WX → TS} {out : WX}
theorem ps_try_clN (es : X.stack = X.env :: X.outer) (ef : X.env.frame = some X.env.locals) (nd : X.N.Nodup) (tk : L2N.Takes X out)
    (hb : ∀ (W : WX) (pn : List (Addr × Obj)) (xe : Value → Shared → Prop), L2N.Takes (X.tr pn xe) W → PassesOwn (model X.prog X.w) X.A X.env xe → PSs (X.tr pn xe) body (tb W))
    (hh : ClOkN X (h0 :: hs) l) : PS X (.Try body (h0 :: hs) [] [] pos) (fun D σ H => tb (wCl X.K out D l) D σ H) := by
  refine ⟨fun pins s σ H D I h => wpAny_Try_except ?_⟩
  have ok := I.ok
  have fr : X.A.frames = some (X.env :: X.outer) := by rw [ok.frames, es]
  have bod := hb (wCl X.K out D l) (X.pn ++ pins) (fun e s₁ => wpAny (model X.prog X.w) X.A (noteFrame e X.env) (fun _ s₂ => wpAny (model X.prog X.w) X.A (setFlight e none) (fun _ s₃ => wpAny (model X.prog X.w) X.A (handleBy e X.env (h0 :: hs)) (SP X pins D) X.xe s₃) X.xe s₂) X.xe s₁)
  refine wpAny_mono ((bod (fun u s' air => ?_) PassesOwn.looking).run [] s σ H D (I.toTry _) h) (fun f s1 hsp => ?_) (fun _ _ z => z)
  · obtain ⟨a, B, sI, pins', τ, G, cls, d, rfl, J1, nb, up, sky, na, os, ag, wish⟩ := air
    have J : Inv X pins τ G sI := J1.ofTry ok
    rw [show (X.tr (X.pn ++ pins) _).stack = X.env :: X.outer from es] at sky
    refine L2N.Sky.land L2N.Zn.steady fr ef sky fun h3 fly up3 => ?_
    have J3 : Inv X pins τ G { s' with heap := h3 } := J.landed nb fly.1 (up.trans up3) os ag
    obtain ⟨oe, fv, at3, zc3, fd3⟩ := fly.there
    have off : a ∉ frs (X.env :: X.outer) := fun hm => by
      obtain ⟨_, o, e, nf⟩ := fly.2.2.1.mem hm
      rw [at3] at e
      cases e
      exact nf _ fd3
    have nL : a ≠ X.env.locals := fun z => off (List.mem_filterMap.mpr ⟨X.env, List.mem_cons_self, by rw [ef, z]⟩)
    have nF : a ∉ X.fs := fun hm => by
      obtain ⟨e, he, q⟩ := List.mem_filterMap.mp hm
      exact off (List.mem_filterMap.mpr ⟨e, List.mem_cons_of_mem _ he, q⟩)
    have typ : PySem.W.Looks (model X.prog X.w) h3 (typeOf (.ref a)) cls := fun A Q E s k q => wpAny_typeOf_ref (k _ _ at3) (by rw [And.left zc3]; exact q)
    have su0 := J3.suite at3 fd3 na nL nF
    have all : ∀ {hs' : List ExceptHandler} {l' : List Cl}, ClOkN X hs' l' → wCl X.K out D l' cls d τ G → wpAny (model X.prog X.w) X.A (handleBy (.ref a) X.env hs') (SP X pins D) X.xe { s' with heap := h3 } := by
      intro hs' l' ck
      induction ck with
      | nil =>
        intro w
        obtain ⟨k1, k2, k3, oo, ov, T, oT, ts', e1, e2, e3, e4, e5⟩ := id fly
        refine wpAny_handleBy_nil ?_
        unfold PySem.passOn
        refine wpAny_bind (wpAny_field e1 e3 e4 ?_)
        rw [if_neg (show ¬ ((Value.ref T == Value.none) = true) from by simp)]
        have go : wpAny (model X.prog X.w) X.A (setFlight (.ref a) X.env.frame) (fun _ s4 => wpAny (model X.prog X.w) X.A (throw (.ref a) : Sem Flow) (SP X pins D) X.xe s4) X.xe { s' with heap := h3 } := by
          rw [ef]
          exact HandSPX.setFlight_upZ fly fun h4 held up4 => wpAny_throw (tk _ _ ⟨a, B, sI, pins, τ, G, cls, d, rfl, J, nb, (up.trans up3).trans up4, Or.inr (Or.inr (by rw [es]; exact held)), na, os, ag, w⟩)
        first
          | exact wpAny_bind (wpAny_pure (wpAny_bind go))
          | exact wpAny_bind go
      | @nm x n c i ts b0 st np pos hs2 l2 hi hl hc su r ih =>
        rintro ⟨b, hb1, yes, no⟩
        refine wpAny_handleBy_cons (codeAny_handlers_test ?_) (by intro q; cases q)
        refine clause_nameN (Y := X.suite a ((a, oe) :: (X.pn ++ pins))) hc su0 rfl rfl ((PySem.W.exm_one (M := model X.prog X.w) J3.kIn typ hb1).here ?_)
        match b, yes, no with
        | false, _, no => exact ih (no rfl)
        | true, yes, _ =>
          refine codeAny_handlers_suite_as (HandSPX.lands_againZ fly fun h4 fly4 up4 => ?_)
          obtain ⟨o4, v4, at4, zc4, fd4⟩ := fly4.there
          have su4 := (J.landed (s' := { s' with heap := h4 }) nb fly4.1 ((up.trans up3).trans up4) os ag).suite at4 fd4 na nL nF
          refine store_ok (X := X.suite a ((a, o4) :: (X.pn ++ pins))) (v := .ref a) su4 nd hi (Or.inl hl) rfl (fun s5 S5 => ?_) (Or.inr hl)
          refine wpAny_mono ((su a o4 cls d (X.pn ++ pins) zc4.zc ⟨_, fd4, zc4.2.2 _ fd4⟩).run [] s5 _ G _ S5 (yes rfl a na)) (fun f s6 fin => ?_) (fun _ _ z => z.elim)
          cases f with
          | next =>
            obtain ⟨τ6, G6, S6, q6⟩ := fin
            exact gone_ok (S6.unsuite ok) nd hi hl fun s7 J7 => ⟨_, _, J7, q6⟩
          | brk =>
            obtain ⟨τ6, G6, S6, q6⟩ := fin
            exact gone_ok (S6.unsuite ok) nd hi hl fun s7 J7 => ⟨_, _, J7, q6⟩
          | cont =>
            obtain ⟨τ6, G6, S6, q6⟩ := fin
            exact gone_ok (S6.unsuite ok) nd hi hl fun s7 J7 => ⟨_, _, J7, q6⟩
          | ret u =>
            obtain ⟨v6, τ6, G6, S6, r6, q6⟩ := fin
            exact gone_ok (S6.unsuite ok) nd hi hl fun s7 J7 => ⟨_, _, _, J7, r6, q6⟩
      | @no x c ts b0 st np pos hs2 l2 hc su r ih =>
        rintro ⟨b, hb1, yes, no⟩
        refine wpAny_handleBy_cons (codeAny_handlers_test ?_) (by intro q; cases q)
        refine clause_nameN (Y := X.suite a ((a, oe) :: (X.pn ++ pins))) hc su0 rfl rfl ((PySem.W.exm_one (M := model X.prog X.w) J3.kIn typ hb1).here ?_)
        match b, yes, no with
        | false, _, no => exact ih (no rfl)
        | true, yes, _ =>
          refine codeAny_handlers_suite (HandSPX.lands_againZ fly fun h4 fly4 up4 => ?_)
          obtain ⟨o4, v4, at4, zc4, fd4⟩ := fly4.there
          have su4 := (J.landed (s' := { s' with heap := h4 }) nb fly4.1 ((up.trans up3).trans up4) os ag).suite at4 fd4 na nL nF
          refine wpAny_mono ((su a o4 cls d (X.pn ++ pins) zc4.zc ⟨_, fd4, zc4.2.2 _ fd4⟩).run [] _ _ G _ su4 (yes rfl a na)) (fun f s6 fin => ?_) (fun _ _ z => z.elim)
          cases f with
          | next =>
            obtain ⟨τ6, G6, S6, q6⟩ := fin
            exact Exists.intro τ6 (Exists.intro G6 (And.intro (S6.unsuite ok) q6))
          | brk =>
            obtain ⟨τ6, G6, S6, q6⟩ := fin
            exact Exists.intro τ6 (Exists.intro G6 (And.intro (S6.unsuite ok) q6))
          | cont =>
            obtain ⟨τ6, G6, S6, q6⟩ := fin
            exact Exists.intro τ6 (Exists.intro G6 (And.intro (S6.unsuite ok) q6))
          | ret u =>
            obtain ⟨v6, τ6, G6, S6, r6, q6⟩ := fin
            exact Exists.intro v6 (Exists.intro τ6 (Exists.intro G6 (And.intro (S6.unsuite ok) (And.intro r6 q6))))
    exact all hh wish
  · cases f with
    | next =>
      obtain ⟨τ, G, J, q⟩ := hsp
      exact wpAny_execs_nil (Exists.intro τ (Exists.intro G (And.intro (J.ofTry ok) q)))
    | brk =>
      obtain ⟨τ, G, J, q⟩ := hsp
      exact Exists.intro τ (Exists.intro G (And.intro (J.ofTry ok) q))
    | cont =>
      obtain ⟨τ, G, J, q⟩ := hsp
      exact Exists.intro τ (Exists.intro G (And.intro (J.ofTry ok) q))
    | ret u =>
      obtain ⟨v, τ, G, J, r, q⟩ := hsp
      exact Exists.intro v (Exists.intro τ (Exists.intro G (And.intro (J.ofTry ok) (And.intro r q))))
end
end IC
namespace IC
open PySem PySem.Spec PyProof.Rows L2 TL
/-! ### what is raised has no context: the rules of b_exc, b_exc0, b_setx, b_kwmeth again -/
theorem Fun.okN {P : Program} {w : World} {K : PySem.W.Frag} {mg : Str → Option Value} {base : Heap} {x qual : Str} {st : Stmt} {f : Addr} {fd : FuncData} {M ps : List Str} {k : Nat} {sp : Sp} (D : Fun K x qual st f fd) (S : FnScope M ps (defScope st)) (len : ∀ vs H Q E, sp vs H Q E → vs.length = ps.length)
    (walk : ∀ (cdv : Value) (A : Around) (outer : List Env) (s : Shared) (H : Hp) (vs : List V) (Q : VK) (E : XK), Room k (A.deeper (envOfC qual (defScope st) s.heap.objs.size f cdv)) → sp vs H Q E →
      ∃ t, PSs (cxOf (L2N.CX P w) P w K mg base M qual (defScope st) f cdv A outer s H E) (defBody st) t ∧ t { nx := fun _ G => Q .non G, rt := Q } (L2.start M vs) H) : FnOk P w K mg base (L2N.CX P w) (k + 1) f fd ps sp := by
  obtain ⟨_, _, _, _, _, _, _, _, _, rfl, lk, code⟩ := D.ex
  exact fn_of lk code S len fun A outer s H vs Q E room wish => walk _ A outer s H vs Q E room wish
section
variable {X : Cx} {k j : Nat} {C : Addr} {m : Str} {ps : List Str} {dvs : List V} {sp : Sp} {o e : Expr} {es : List Expr} {pos apos : Pos} {ta : TE} {t : TA} {pl : Sem Bool} {W : WX}
theorem pe_mdXN (D : MDf X.prog X.w X.K X.mg X.base (L2N.CX X.prog X.w) k C m ps dvs sp) (c : Cls X.K C) (tk : L2N.Takes X W) (hr : Room j X.A) (hk : k ≤ j) (he : PE X o ta) (ha : PA X (e :: es) t)
    (hst : starEach (e :: es) X.env = (false, eval e X.env) :: starEach es X.env := by rfl) (hpl : (backTo pos (starEach es X.env)).any (·.1) = false := by rfl)
    (ht : eval (.Call (.Attribute o m apos) (e :: es) [] pos) X.env = (do
      let ov ← eval o X.env; standAt apos.atName
      let (f, first) ← holding [ov] (getMethod ov m pl); callWith pos f first (backTo pos (starEach (e :: es) X.env)) (backToKw pos (keywordEach [] X.env))) := by rfl) :
    PE X (.Call (.Attribute o m apos) (e :: es) [] pos) (tMethS C m sp dvs (WE W) ta t) := by
  obtain ⟨f, fd, ds, F, hm, hb, hd⟩ := D.ex
  refine ⟨fun pins s σ H Q I h => PySem.W.methodCall_KW (pl := pl) (thn (he.run pins s σ H _ I h) fun u s1 ⟨x, H1, I1, rx, a, dx, fs, ex, ea, l, q⟩ => ?_) ht⟩
  subst ex
  obtain rfl : u = Value.ref a := rx
  refine getmeth_ok I1 ea c hm l (PySem.W.callWith_K (first := [.ref a]) (h₀ := X.base) I1.ok.mod.kin hm.kp (thn (ha.run pos pins s1 σ H1 _ I1 q) fun us s2 ⟨vs, H2, I2, r, q2⟩ => ⟨I2.kIn, ?_⟩) hst hpl)
  exact run_fnSD (us := .ref a :: us) (vs := .ref a :: vs) F (hr.mono hk) hb hd (L2N.passAt tk σ) I2 (.cons rfl r) q2
theorem pe_mdX0N (D : MDf X.prog X.w X.K X.mg X.base (L2N.CX X.prog X.w) k C m ps dvs sp) (c : Cls X.K C) (tk : L2N.Takes X W) (hr : Room j X.A) (hk : k ≤ j) (he : PE X o ta)
    (ht : eval (.Call (.Attribute o m apos) [] [] pos) X.env = (do
      let ov ← eval o X.env; standAt apos.atName
      let (f, first) ← holding [ov] (getMethod ov m pl); callWith pos f first (backTo pos (starEach [] X.env)) (backToKw pos (keywordEach [] X.env))) := by rfl) :
    PE X (.Call (.Attribute o m apos) [] [] pos) (tMethS C m sp dvs (WE W) ta tNil) := by
  obtain ⟨f, fd, ds, F, hm, hb, hd⟩ := D.ex
  refine ⟨fun pins s σ H Q I h => PySem.W.methodCall_KW (pl := pl) (thn (he.run pins s σ H _ I h) fun u s1 ⟨x, H1, I1, rx, a, dx, fs, ex, ea, l, q⟩ => ?_) ht⟩
  subst ex
  obtain rfl : u = Value.ref a := rx
  refine getmeth_ok I1 ea c hm l ?_
  exact PySem.W.callWith_K0 (first := [.ref a]) I1.kIn hm.kp (run_fnSD (us := [.ref a]) (vs := [.ref a]) F (hr.mono hk) hb hd (L2N.passAt tk σ) I1 (.cons rfl .nil) q)
end
theorem pe_mdXKN {X : Cx} {k j n : Nat} {C : Addr} {m : Str} {ks ps : List Str} {gV : List V → List V → List V} {sp : Sp} {o e : Expr} {es : List Expr} {kws : List Keyword} {pos apos : Pos} {ta : TE} {t u : TA} {pl : Sem Bool} {W : WX}
    (D : KDf X.prog X.w X.K X.mg X.base (L2N.CX X.prog X.w) k C m n ks gV ps sp) (c : Cls X.K C) (tk : L2N.Takes X W) (hr : Room j X.A) (hk : k ≤ j) (he : PE X o ta) (ha : PA X (e :: es) t) (hw : PK X kws u)
    (hall : (backToKw pos (keywordEach kws X.env)).all (·.1.isSome) = true := by rfl) (hks : (backToKw pos (keywordEach kws X.env)).filterMap (·.1) = ks := by rfl)
    (hst : starEach (e :: es) X.env = (false, eval e X.env) :: starEach es X.env := by rfl) (hpl : ((backTo pos (starEach (e :: es) X.env)).any (·.1) || (backToKw pos (keywordEach kws X.env)).any (·.1.isNone)) = false := by rfl)
    (ht : eval (.Call (.Attribute o m apos) (e :: es) kws pos) X.env = (do
      let ov ← eval o X.env; standAt apos.atName
      let (f, first) ← holding [ov] (getMethod ov m pl); callWith pos f first (backTo pos (starEach (e :: es) X.env)) (backToKw pos (keywordEach kws X.env))) := by rfl) :
    PE X (.Call (.Attribute o m apos) (e :: es) kws pos) (tMethK C m n ks.length sp gV (WE W) ta t u) := by
  obtain ⟨f, fd, g, F, hm, hb⟩ := D.ex
  refine ⟨fun pins s σ H Q I h => PySem.W.methodCall_KW (pl := pl) (thn (he.run pins s σ H _ I h) fun v s1 ⟨x, H1, I1, rx, a, dx, fs, ex, ea, l, q⟩ => ?_) ht⟩
  subst ex
  obtain rfl : v = Value.ref a := rx
  refine getmeth_ok I1 ea c hm l (PySem.W.callWith_KW (first := [.ref a]) (h₀ := X.base) I1.ok.mod.kin hm.kp hall (thn (ha.run pos pins s1 σ H1 _ I1 q) fun us s2 ⟨vs, H2, I2, r, q2⟩ => ?_) hpl hst)
  refine thn (hw.run pos pins s2 σ H2 _ I2 q2) fun ws s3 ⟨zs, H3, I3, rz, l1, l2, q3⟩ => ⟨I3.kIn, ?_⟩
  rw [hks]
  have r1 : Vals (V.ref a :: vs) (Value.ref a :: us) := .cons rfl r
  have n1 : (Value.ref a :: us).length = n + 1 := by rw [← r1.length, List.length_cons, l1]
  refine wpAny_call (codeAny_mono (F.run X.A X.stack s3 H3 ⟨Value.ref a :: us, ks.zip ws⟩ (g (Value.ref a :: us) ws) (gV (V.ref a :: vs) zs) Q (WE W σ) (hr.mono hk) I3.env0 (hb.to s3 _ ws I3.kIn n1 (by rw [← rz.length]; exact l2)) (hb.rel r1 rz) q3) fun r s' hq => ?_)
  match r, hq with
  | .error er, hq => exact L2N.passAt tk σ pins H3 s3 er s' I3 hq
  | .ok (.ret z), hq => exact I3.after hq
  | .ok .next, hq => exact False.elim hq
  | .ok .brk, hq => exact False.elim hq
  | .ok .cont, hq => exact False.elim hq
section
variable {X : Cx} {C : Addr} {k j : Nat} {sp : Sp}
theorem pg_setXN {W : WX} {o i : Expr} {to ti : TE} {pos : Pos} (D : SpD X.prog X.w X.K X.mg X.base (L2N.CX X.prog X.w) k C "__setitem__" sp) (hq : PySem.W.noSeq X.K C = true) (hr : Room j X.A) (hk : k ≤ j) (tk : L2N.Takes X W) (ho : PE X o to) (hi : PE X i ti)
    (ha : ∀ v, assign (.Subscript o i pos) X.env v = (do
      let ov ← holding [v] (eval o X.env)
      let iv ← holding [v, ov] (eval i X.env)
      standAt pos
      holding [v, ov, iv] (setItem ov iv v)
      release [v, ov, iv] []) := by intro _; rfl) : PG X (.Subscript o i pos) (gSetX C sp (WE W) to ti) := by
  obtain ⟨g, has, fn, _, F⟩ := D.ex
  refine ⟨fun pins s σ H v u Q I r h => ?_⟩
  rw [ha]
  refine wpAny_bind (wpAny_holding (thn (ho.run pins s σ H _ I h) fun ov s1 ⟨x, H1, I1, r1, q1⟩ => ?_))
  refine wpAny_bind (wpAny_holding (thn (hi.run pins s1 σ H1 _ I1 q1) fun iv s2 ⟨y, H2, I2, r2, p, dx, fs, ex, hp, q2⟩ => ?_))
  subst ex
  cases r1
  rcases StX.insC_at I2 (.inr ⟨dx, fs, hp⟩) with ⟨ox, od, J, _⟩
  rcases I2.fr with ⟨m, hF⟩
  have run := F X.A X.stack s2 H2 [Value.ref p, iv, u] [V.ref p, y, v] _ (WE W σ) (hr.mono hk) I2.env0 (.cons (show RelV (V.ref p) (Value.ref p) from rfl) (.cons r2 (.cons r .nil))) q2
  refine wpAny_bind (wpAny_standAt (wpAny_bind (wpAny_holding (PySem.W.ksp_setItem hF I2.ok.mod.kin J hq has fn (wpAny_call (codeAny_mono run fun rr s' z => ?_))))))
  match rr, z with
  | .error er, z => exact L2N.passAt tk σ pins H2 s2 er s' I2 z
  | .ok (.ret w), z =>
    obtain ⟨y2, H3, I3, _, q3⟩ := I2.after z
    exact wpAny_release ⟨σ, H3, I3, q3⟩
  | .ok .next, z => exact False.elim z
  | .ok .brk, z => exact False.elim z
  | .ok .cont, z => exact False.elim z
end
/-- the end of the making of an error -/
theorem mk_endN {X : Cx} {pins : List (Addr × Obj)} {σ : L2.St} {H1 H2 : Hp} {Q : XK} {hp hp2 h2 : Heap} {g1 g2 : Array GenState} {d1 d2 : Drawn} {t1 t2 : Nat} {os1 os2 : OsState} {a C d : Addr} {fs : List (Str × V)} (T : Raises X (.ref C)) (I1 : Inv X pins σ H1 ⟨hp, g1, d1, t1, os1⟩)
    (ha : hp.objs.size ≤ a) (k : ∀ b o, hp.get? b = some o → hp2.get? b = some o) (un : Un (frs X.stack) [] (upd H1 a (exo a C none)) H2 hp2 h2) (hok : HOk X.prog X.w H2 h2) (ho : os2 = os1) (hb : AllBare g2)
    (ea : H2 a = some (exo a C (some d))) (ed : H2 d = some (exd d fs)) (hd1 : H1 d = none) (q : Q (.ref C) (some d) (upd (del H2 a) d (.xd fs))) : L2N.MkP X pins σ Q (.ref a) ⟨h2, g2, d2, t2, os2⟩ := by
  obtain ⟨t0, G, J, kG, ge, hoe, na⟩ := mk_end0 (d2 := d2) (t2 := t2) I1 ha k un hok ho hb ea ed hd1
  exact ⟨a, _, _, ⟨G, g2, d2, t2, os2⟩, _, .ref C, some d, rfl, J, kG, ge, hoe, ⟨rfl, rfl, fun vs e => by cases e; rfl⟩, rfl, rfl, na, rfl, hb, T, q⟩
section
variable {X : Cx} {x : Str} {C fI : Addr} {k : Nat} {fd : FuncData} {sp : Sp} {p pos : Pos}
theorem pmk_oe0N (T : OexC X.K C) (iC : PySem.W.findIn X.K (.ref C) "__init__" = some (some (.ref fI))) (tI : PySem.W.typeIn X.K (.ref fI) = some (.type "function")) (Fn : FnOk X.prog X.w X.K X.mg X.base CX0 k fI fd ["self"] sp) (hr : Room (k + 1) X.A)
    (hb : Binds X.K fd ["self"] []) (hg : Gl X x) (hm : X.mg x = some (.ref C)) (hdb : (x == ("__debug__" : Str)) = false := by decide) : L2N.PMk X (.Call (.Name x p) [] [] pos) (tMk0 C sp) := by
  intro pins s σ H Q I h
  obtain ⟨nm, q, N, bs, bm, sn, sub, ab, col, dd, k0, k1, k2, k3, k5, hC, hbm⟩ := T.cls
  refine wpAny_Call_Name_kw (ld_glob I hg hm (PySem.W.callWith_K0 I.kIn T.kC ?_) hdb)
  obtain ⟨hp, g, dr, tk, os⟩ := s
  obtain ⟨e, he⟩ : ∃ e, e = hp.objs.size + 1 := ⟨_, rfl⟩
  have le : hp.objs.size ≤ e := by rw [he]; exact Nat.le_succ _
  have ne : H e = none := I.hok.fresh le
  have up : ∀ b o, hp.get? b = some o → ((hp.push (PySem.W.kdv_tup [])).push (PySem.HandSPX.excO C hp.objs.size)).get? b = some o := fun b o z => Heap.get?_push_of_some _ (Heap.get?_push_of_some _ z)
  have at_ : ((hp.push (PySem.W.kdv_tup [])).push (PySem.HandSPX.excO C hp.objs.size)).get? e = some (PySem.HandSPX.excO C hp.objs.size) := by
    rw [he]
    heap_get
  have J : Inv X pins σ (upd H e (exo e C none)) ⟨(hp.push (PySem.W.kdv_tup [])).push (PySem.HandSPX.excO C hp.objs.size), g, dr, tk, os⟩ := I.laid (t' := tk) up le (exo_ok at_)
  have go := Fn.run _ X.stack _ _ ⟨[Value.ref e], []⟩ [Value.ref e] [V.ref e] _ E0 (hr.make C [] []) (J.env0.make C [] []) (by have z := hb _ [Value.ref e] J.kIn rfl; rw [List.append_nil] at z; exact z) (.cons (show RelV (V.ref e) (Value.ref e) from rfl) .nil) (h e ne)
  subst he
  refine wpAny_call (PySem.HandSPX.call_own PySem.F.excBase_ValueError (fun Y => PySem.HandSPX.refsVE_contains Y bm hbm) (I.kIn _ _ hC) (PySem.W.looks_findIn I.kIn iC) (fun self => PySem.W.bind_fn I.kIn self tI) (Nat.zero_le _) (codeAny_mono go fun r s' z => ?_))
  match r, z with
  | .error er, z => exact False.elim z
  | .ok .next, z => exact False.elim z
  | .ok .brk, z => exact False.elim z
  | .ok .cont, z => exact False.elim z
  | .ok (.ret u), z =>
    obtain ⟨v, H2, o2, b2, u2, ok2, rv, ev, d, fs, ea, ed, hd, q2⟩ := z
    subst ev
    obtain ⟨h2, g2, d2, t2, os2⟩ := s'
    exact And.intro rv (mk_endN (raises_own T.exC T.tyC) I le up u2 ok2 o2 b2 ea ed hd q2)
end
section
variable {X : Cx} {x : Str} {C fI : Addr} {k j : Nat} {fd : FuncData} {ps : List Str} {sp : Sp} {e : Expr} {es : List Expr} {ta : TA} {p pos : Pos}
theorem pmk_oexN (T : OexC X.K C) (iC : PySem.W.findIn X.K (.ref C) "__init__" = some (some (.ref fI))) (tI : PySem.W.typeIn X.K (.ref fI) = some (.type "function")) (Fn : FnOk X.prog X.w X.K X.mg X.base CX0 k fI fd ps sp) (hr : Room (k + 1) X.A) (hb : Binds X.K fd ps []) (hg : Gl X x) (hm : X.mg x = some (.ref C)) (ha : PA X (e :: es) ta)
    (hdb : (x == ("__debug__" : Str)) = false := by decide) (he : starEach (e :: es) X.env = (false, eval e X.env) :: starEach es X.env := by rfl) (hpl : (backTo pos (starEach es X.env)).any (·.1) = false := by rfl) : L2N.PMk X (.Call (.Name x p) (e :: es) [] pos) (tMkO C sp [] ta) := by
  intro pins s σ H Q I h
  obtain ⟨nm, q, N, bs, bm, sn, sub, ab, col, dd, k0, k1, k2, k3, k5, hC, hbm⟩ := T.cls
  refine wpAny_Call_Name_kw (ld_glob I hg hm ?_ hdb)
  refine PySem.W.callWith_K (h₀ := X.base) I.ok.mod.kin T.kC (thn (ha.run pos pins s σ H _ I h) fun us s1 ⟨vs, H1, I1, r1, hz, q1⟩ => ⟨I1.kIn, ?_⟩) he hpl
  show wpAny _ _ (call (.ref C) us) _ _ _
  obtain ⟨hp, g, dr, tk, os⟩ := s1
  obtain ⟨a, ea⟩ : ∃ a, a = hp.objs.size + 1 := ⟨_, rfl⟩
  have le : hp.objs.size ≤ a := by rw [ea]; exact Nat.le_succ _
  have na : H1 a = none := I1.hok.fresh le
  have up : ∀ b o, hp.get? b = some o → ((hp.push (PySem.W.kdv_tup us)).push (PySem.HandSPX.excO C hp.objs.size)).get? b = some o := fun b o z => Heap.get?_push_of_some _ (Heap.get?_push_of_some _ z)
  have at_ : ((hp.push (PySem.W.kdv_tup us)).push (PySem.HandSPX.excO C hp.objs.size)).get? a = some (PySem.HandSPX.excO C hp.objs.size) := by
    rw [ea]
    heap_get
  have J : Inv X pins σ (upd H1 a (exo a C none)) ⟨(hp.push (PySem.W.kdv_tup us)).push (PySem.HandSPX.excO C hp.objs.size), g, dr, tk, os⟩ := I1.laid (t' := tk) up le (exo_ok at_)
  have hq := q1 a na
  have r2 : Vals (V.ref a :: (vs ++ [])) (Value.ref a :: (us ++ [])) := .cons rfl (r1.append .nil)
  have l2 : (Value.ref a :: us ++ []).length = ps.length := by
    have z := r2.length
    rw [Fn.len _ _ _ _ hq] at z
    exact z.symm
  have hus : us.length ≤ sizeLine := by
    rw [← Paired.length r1, sizeLine_eq]
    omega
  have go := Fn.run _ X.stack _ _ ⟨Value.ref a :: us, []⟩ (Value.ref a :: us ++ []) (V.ref a :: (vs ++ [])) _ (fun _ _ _ => False) (hr.make C us []) (J.env0.make C us []) (hb _ (Value.ref a :: us) J.kIn l2) r2 hq
  subst ea
  refine wpAny_call (PySem.HandSPX.call_own PySem.F.excBase_ValueError (fun Y => PySem.HandSPX.refsVE_contains Y bm hbm) (I1.kIn _ _ hC) (PySem.W.looks_findIn I1.kIn iC) (fun self => PySem.W.bind_fn I1.kIn self tI) hus (codeAny_mono go fun r s' z => ?_))
  match r, z with
  | .error er, z => exact False.elim z
  | .ok .next, z => exact False.elim z
  | .ok .brk, z => exact False.elim z
  | .ok .cont, z => exact False.elim z
  | .ok (.ret u), z =>
    obtain ⟨v, H2, o2, b2, u2, ok2, rv, ev, d, fs, ea2, ed, hd, q2⟩ := z
    subst ev
    obtain ⟨h2, g2, d2, t2, os2⟩ := s'
    exact And.intro rv (mk_endN (raises_own T.exC T.tyC) I1 le up u2 ok2 o2 b2 ea2 ed hd q2)
theorem pmk_edN {q : Str} {fs : V → List (Str × V)} (D : EDf X.prog X.w X.K X.mg X.base k x C q fs) (kC : PySem.W.keepIn X.K (.ref C) = true) (hr : Room j X.A) (hk : k + 1 ≤ j) (hg : Gl X x) (ha : PA X [e] ta)
    (hdb : (x == ("__debug__" : Str)) = false := by decide) (he : starEach [e] X.env = (false, eval e X.env) :: starEach [] X.env := by rfl) (hpl : (backTo pos (starEach [] X.env)).any (·.1) = false := by rfl) : L2N.PMk X (.Call (.Name x p) [e] [] pos) (tMkE C fs ta) := by
  obtain ⟨fI, fd, T, F, hb⟩ := D.ex
  exact pmk_oexN T.ox T.iC T.tI F (hr.mono hk) hb hg T.gC ha hdb he hpl
theorem pmk_ed0N {fs : List (Str × V)} (D : EDf0 X.prog X.w X.K X.mg X.base k x C fs) (hr : Room j X.A) (hk : k + 1 ≤ j) (hg : Gl X x) (hdb : (x == ("__debug__" : Str)) = false := by decide) : L2N.PMk X (.Call (.Name x p) [] [] pos) (tMk0 C (spErr0 C fs)) := by
  obtain ⟨fI, fd, T, F, hb⟩ := D.ex
  exact pmk_oe0N T.ox T.iC T.tI F (hr.mono hk) hb hg T.gC hdb
theorem pmk_plain0N {bmB : List Value} {B newId initId : String} (Fb : ExcBaseFacts B newId initId bmB) (q : PySem.W.excIn X.K C bmB newId = true) (gC : X.mg x = some (.ref C)) (kC : PySem.W.keepIn X.K (.ref C) = true)
    (r : Raises X (.ref C)) (hg : Gl X x) (hdb : (x == ("__debug__" : Str)) = false := by decide) : L2N.PMk X (.Call (.Name x p) [] [] pos) (fun _ H Q => Q (.ref C) none H) := by
  intro pins s σ H Q I h
  refine wpAny_Call_Name_kw (ld_glob I hg gC (PySem.W.callWith_K0 I.kIn kC ?_) hdb)
  obtain ⟨bm, N, nm, qn, bs, hdct, sn, sub, ab, col, dd, k0, k1, k2, k3, k5, mN, hC, hN, hni, T⟩ := exc_obj I.kIn q
  exact wpAny_call_exc_subT Fb T hC hN hni (fun h' e hm => L2N.mk_of I hm r h (I.hok.gone hm.new)) (Nat.zero_le _)
end
end IC
namespace IC
open PySem L2 TL
section
variable {P : Program} {w : World} {K : PySem.W.Frag} {mg : Str → Option Value} {base : Heap} {c : Cs} {CW EB EN ER EW EBM ENR : Addr}
theorem ok_leaveN {f : Addr} {fd : FuncData} {dvs : List V} {kws : List (Str × V)} (F : FunD K "leave" "Database.leave" (defArgs s_Database_leave) (defBody s_Database_leave) (defScope s_Database_leave) dvs kws f fd) (T : Bn mg) (B : DbTxt K mg c)
    (P_reason : PDf P w K mg base 1 c.D "reason" (spLookG c CW 0 fun S _ v => v = oV (eT S.top).why)) (M_end_block : MDf P w K mg base CX0 3 c.D "_end_block" ["self", "error", "commits"] [] (spEndBG c CW)) (D_is_word : Df P w K mg base 1 "is_word" ["thing"] (spIsWord K))
    (E_B : EDf P w K mg base 1 "BadWord" EB "word" fsB) (kB : PySem.W.keepIn K (.ref EB) = true) (E_O : EDf P w K mg base 1 "Doomed" c.O "first" fsD) (kO : PySem.W.keepIn K (.ref c.O) = true) (E_R : EDf0 P w K mg base 1 "Refused" ER fsRf)
    (xN : PySem.W.excIn K EN [.type "ValueError", .type "Exception", .type "BaseException", .type "object"] "ValueError.__new__" = true) (gN : mg "NoBlock" = some (.ref EN)) (kN : PySem.W.keepIn K (.ref EN) = true)
    (bN : PySem.W.subIn K (.ref EN) (.type "BaseException") = some true) (tN : PySem.W.typeIn K (.ref EN) = some (.type "type")) : FnOk P w K mg base (L2N.CX P w) 4 f fd ["self", "error", "commits"] (spLeaveG K c CW EB EN ER) := by
  refine F.ok sc_Database_leave (fun vs H Q E h => ?_) (fun cdv A outer s H vs Q E hr h => ?_)
  · obtain ⟨S, F, ev, goes, rfl, _⟩ := h
    rfl
  · obtain ⟨S, F, ev, goes, rfl, hd, sz, k⟩ := h
    refine ⟨_, (pss_cons (ps_if (pt_cmpR op_eq (pe_callB call_len_seq (by rfl) T.len PySem.boot_len (pa_cons (pe_fld (pv 0) rfl) pa_nil)) (pe_fld (pv 0) rfl) (nomark _))
  (pss_one (L2N.ps_raise rfl (L2N.takes_of rfl rfl rfl rfl) (pmk_plain0N PySem.F.excBase_ValueError xN gN kN (raises_own bN tN) rfl)))
  pss_nil)
  (Evl.pss_cut (ps_if (PW.pt (pw_and (pt_cmpR op_notN (pv 1) pe_non (nomark _)) (pw_and1 (pt_not (pt_val (pe_df D_is_word hr (by decide) rfl (pa_cons (pv 1) pa_nil)))))))
  (pss_one (L2N.ps_raise rfl (L2N.takes_of rfl rfl rfl rfl) (pmk_edN E_B kB hr (by decide) rfl (pa_cons (pv 1) pa_nil))))
  pss_nil)
  (pss_cons (ps_set (i := 3) sc_Database_leave.nd rfl (Or.inl rfl) (pe_pd P_reason B.cD hr (by decide) (pv 0)))
  (pss_cons (ps_set (i := 4) sc_Database_leave.nd rfl (Or.inl rfl) (pe_md M_end_block B.cD hr (by decide) (pv 0) (pa_cons (pv 1) (pa_cons (pv 2) pa_nil))))
  (pss_cons (ps_if (pt_cmpR op_eq (pv 4) pe_str (nomark _))
  (pss_one (L2N.ps_raise rfl (L2N.takes_of rfl rfl rfl rfl) (pmk_edN E_O kO hr (by decide) rfl (pa_cons (pv 3) pa_nil))))
  pss_nil)
  (pss_one (ps_if (pt_cmpR op_eq (pv 4) pe_str (nomark _))
  (pss_one (L2N.ps_raise rfl (L2N.takes_of rfl rfl rfl rfl) (pmk_ed0N E_R hr (by decide) rfl)))
  pss_nil))))))), ?_⟩
    have hdb := hd.db
    refine ⟨_, rfl, S.d, c.D, S.p.dx, _, _, rfl, hdb.hd, B.cD, B.nB, rfl, S.p.b, _, rfl, .inl (SqL.of hdb.hb), _, rfl, S.d, c.D, S.p.dx, _, _, rfl, hdb.hd, B.cD, B.nF, rfl, rfl, _, rfl, ?_⟩
    rw [List.length_map]
    rcases k with ⟨e0, k⟩ | k
    · rw [e0, decide_eq_true rfl]
      exact iteT k
    have e0 : decide (V.int (S.bl.length : Int) = V.int S.p.fl) = false := by
      rw [decide_eq_false_iff_not]
      intro e
      injection e with e
      exact k.elim (fun q => q.1 e) fun q => q.1 e
    rw [e0]
    refine iteF ?_
    rcases k with ⟨_, nw, nn, k⟩ | ⟨_, ns, err, rfl, hw, k⟩
    · refine ⟨fun _ _ => False, ?_, fun _ _ h => h.elim⟩
      refine ⟨_, rfl, rfl, _, rfl, ?_⟩
      rw [decide_eq_false nn]
      refine iteT ⟨_, rfl, ?_⟩
      rcases nw with ⟨z, rfl, hl, hz⟩ | ot
      · refine ⟨_, rfl, .inl ⟨z, rfl, hl, fun H1 s1 => ⟨_, rfl, ?_⟩⟩⟩
        rw [hz]
        exact iteT ⟨_, rfl, mke _ rfl fun x hx => k x _ (s1.trans (Same.new hx)) upd_same⟩
      · exact ⟨_, rfl, .inr ⟨ot, fun H1 s1 => ⟨_, rfl, iteT ⟨_, rfl, mke _ rfl fun x hx => k x _ (s1.trans (Same.new hx)) upd_same⟩⟩⟩⟩
    refine ⟨fun σ' H' => σ' = [some (.ref S.d), some (oV err), some (.bl goes), none, none] ∧ Same H H', ?_, ?_⟩
    · cases err with
      | none => exact ⟨_, rfl, rfl, _, rfl, iteF (iteF ⟨rfl, fun _ _ e => e⟩)⟩
      | some w =>
        have ww := hw w rfl
        refine ⟨_, rfl, rfl, _, rfl, iteT ?_⟩
        refine ⟨_, rfl, _, rfl, .inl ⟨w, rfl, by have := ww.2.1; omega, fun H1 s1 => ⟨_, rfl, ?_⟩⟩⟩
        rw [wB_of ww]
        exact iteF ⟨rfl, s1⟩
    rintro σ' H1 ⟨rfl, s1⟩
    have hd1 := hd.same s1
    refine ⟨_, rfl, S.d, S.p.dx, _, rfl, hd1.db.hd, S, F, [], _, rfl, rfl, hd1, sz.up (by decide), rfl, ?_⟩
    refine ⟨_, rfl, S.d, S.p.dx, _, rfl, hd1.db.hd, rfl, _, rfl, _, rfl, S, F, err, goes, rfl, hd1, sz, ns, fun H' S' r ks us fr hd' le lr ft => ?_⟩
    have k' := k H' S' r ks us ((Fr.same s1).trans fr) hd' le lr fun W hW => ft W (hW.mv (fun x o _ e => s1 x o e) fun _ z => z)
    rcases lr.word with rfl | rfl | rfl
    · exact ⟨_, rfl, rfl, _, rfl, iteF ⟨_, rfl, rfl, _, rfl, iteF (k'.1 rfl)⟩⟩
    · have k2 := k'.2.1 rfl
      exact ⟨_, rfl, rfl, _, rfl, iteT ⟨_, rfl, mke _ rfl fun x hx => k2 x _ (Same.new hx) upd_same⟩⟩
    · have k2 := k'.2.2 rfl
      exact ⟨_, rfl, rfl, _, rfl, iteF ⟨_, rfl, rfl, _, rfl, iteT (mke0 fun x hx => k2 x _ (Same.new hx) upd_same)⟩⟩
end
end IC
namespace IC
open PySem PySem.Spec PyProof.Rows L2 L2H
/-! ### try: .. except (A, B, ..) as n: a suite that raises .. finally: .. -/
/-- in the air: what is kept of the ground, and the traceback's flight -/
abbrev AirF (B : Heap) (l : List Env) (a : Addr) (Z : Obj → Prop) (fl : Value) (h : Heap) : Prop := B.StaysIn h ∧ B.get? a = none ∧ h.FunFrames B l ∧ HandSPX.TracedZ h B a Z fl
abbrev suiteA (X : Cx) (h : Option Value) (pn : List (Addr × Obj)) (xe : Value → Shared → Prop) : Cx := { X with A := X.A.mark h, calm := false, pn := pn, xe := xe }
/-- an exception and its traceback, pinned -/
structure Pnd (X : Cx) (pins : List (Addr × Obj)) (a T : Addr) (oe oT : Obj) (Z : Obj → Prop) (fl : Value) : Prop where
  z : Z oe
  f : ∃ vs ts, oe.data = .fields vs ∧ oT.data = .fields ts ∧ vs[1]? = some (.ref T) ∧ ts[3]? = some fl
  ne : T ≠ a
  far0 : ∀ b o, X.s_0.heap.get? b = some o → b ≠ a ∧ b ≠ T
  farP : ∀ p ∈ X.pn ++ pins, p.1 ≠ a ∧ p.1 ≠ T
section
variable {X : Cx} {pins : List (Addr × Obj)}
theorem Inv.bareA {h : Option Value} {xe : Value → Shared → Prop} {q r : Addr × Obj} {pn' : List (Addr × Obj)} {τ : L2.St} {G : Hp} {t : Shared} (S : Inv (suiteA X h (q :: r :: (X.pn ++ pins)) xe) pn' τ G t) (ok : X.Ok) : Inv X pins τ G t :=
  ⟨ok, S.os, S.bare, S.base, S.loc, S.cell, S.free, S.freeC, fun p hp => S.pin p (List.mem_append_left _ (List.mem_cons_of_mem _ (List.mem_cons_of_mem _ hp))), S.hok, S.len⟩
theorem okA (ok : X.Ok) (h : Option Value) (pn : List (Addr × Obj)) (xe : Value → Shared → Prop) : (suiteA X h pn xe).Ok :=
  ⟨ok.mod, ok.kind, ok.glob, ok.blt, ok.above, ok.inj, ok.has, ok.cab, fun z => Bool.noConfusion (show false = true from z), ok.frames, ok.stk, ok.exf, ok.bs, ok.bsz, ok.noex, ok.exfs, ok.funs, ok.frf⟩
theorem pin_in {B : Heap} {sI s' : Shared} {τ : L2.St} {G : Hp} {a : Addr} {Z : Obj → Prop} {fl : Value} (es : X.stack = X.env :: X.outer) (ef : X.env.frame = some X.env.locals) (ex : X.ex = []) (J : Inv X pins τ G sI)
    (nb : ∀ b o, sI.heap.get? b = some o → b ∉ frs X.stack → B.get? b = some o) (up : sI.heap.UpToSlots s'.heap) (air : AirF B (X.env :: X.outer) a Z fl s'.heap) (na : G a = none) (os : s'.os = sI.os) (ag : AllBare s'.gens) :
    ∃ T oe oT, Pnd X pins a T oe oT Z fl ∧ s'.heap.get? a = some oe ∧ ∀ h xe, Inv (suiteA X h ((a, oe) :: (T, oT) :: (X.pn ++ pins)) xe) [] τ G s' := by
  have J3 : Inv X pins τ G s' := J.landed nb air.1 up os ag
  obtain ⟨k1, k2, k3, oe, vs, T, oT, ts, e1, z, e2, v1, bT, neT, e3, e4, v3⟩ := id air
  have gT : G T = none := (J.inGround nb).gone bT
  have off : ∀ (b : Addr) (o : Obj) (fv : Array Value), s'.heap.get? b = some o → o.data = .fields fv → b ∉ frs (X.env :: X.outer) := fun b o fv e dd hm => by
    obtain ⟨_, o2, e', nf⟩ := k3.mem hm
    cases e.symm.trans e'
    exact nf _ dd
  have oa := off a oe vs e1 e2
  have oTT := off T oT ts e3 e4
  have locF : X.env.locals ∈ frs (X.env :: X.outer) := List.mem_filterMap.mpr ⟨X.env, List.mem_cons_self, ef⟩
  have fsF : ∀ b, b ∈ X.fs → b ∈ frs (X.env :: X.outer) := fun b hm => by
    obtain ⟨e, he, q⟩ := List.mem_filterMap.mp hm
    exact List.mem_filterMap.mpr ⟨e, List.mem_cons_of_mem _ he, q⟩
  have far : ∀ b o, sI.heap.get? b = some o → b ≠ a ∧ b ≠ T := fun b o e => by
    by_cases hb : b ∈ frs X.stack
    · rw [es] at hb
      exact ⟨fun z => oa (z ▸ hb), fun z => oTT (z ▸ hb)⟩
    · have q := nb b o e hb
      exact ⟨fun z => (by rw [z, k2] at q; cases q), fun z => (by rw [z, bT] at q; cases q)⟩
  refine ⟨T, oe, oT, ⟨z, ⟨vs, ts, e2, e4, v1, v3⟩, neT, fun b o e => ?_, fun p hp => far p.1 p.2 (J.pin p hp).1⟩, e1, fun h xe => ?_⟩
  · obtain ⟨o', q⟩ := J.base.there b o e (by rw [ex]; simp)
    exact far b o' q
  · refine ⟨okA J3.ok h _ xe, J3.os, J3.bare, J3.base, J3.loc, J3.cell, J3.free, J3.freeC, fun p hp => ?_, J3.hok, J3.len⟩
    rw [List.append_nil] at hp
    rcases List.mem_cons.mp hp with q | hp
    · rw [q]
      refine ⟨e1, na, fun q2 => oa (by rw [show a = X.env.locals from q2]; exact locF), fun q2 => oa (fsF _ q2), fun v q2 => ?_⟩
      have q3 : oe.data = .cell v := q2
      rw [e2] at q3
      cases q3
    rcases List.mem_cons.mp hp with q | hp
    · rw [q]
      refine ⟨e3, gT, fun q2 => oTT (by rw [show T = X.env.locals from q2]; exact locF), fun q2 => oTT (fsF _ q2), fun v q2 => ?_⟩
      have q3 : oT.data = .cell v := q2
      rw [e4] at q3
      cases q3
    · exact J3.pin p hp
theorem pin_out {h : Option Value} {xe : Value → Shared → Prop} {pn' : List (Addr × Obj)} {τ : L2.St} {G : Hp} {t : Shared} {a T : Addr} {oe oT : Obj} {Z : Obj → Prop} {fl : Value} (es : X.stack = X.env :: X.outer) (p : Pnd X pins a T oe oT Z fl) (ok : X.Ok)
    (S : Inv (suiteA X h ((a, oe) :: (T, oT) :: (X.pn ++ pins)) xe) pn' τ G t) :
    ∃ g : Heap, Inv X pins τ G { t with heap := g } ∧ AirF (PySem.W.hideAll g (frs X.stack)) (X.env :: X.outer) a Z fl t.heap ∧ (∀ b o, g.get? b = some o → t.heap.get? b = some o) ∧ G a = none := by
  have J := Inv.bareA S ok
  obtain ⟨ea, na, _⟩ := S.pin (a, oe) (List.mem_append_left _ List.mem_cons_self)
  obtain ⟨eT, nT, _⟩ := S.pin (T, oT) (List.mem_append_left _ (List.mem_cons_of_mem _ List.mem_cons_self))
  have ea : t.heap.get? a = some oe := ea
  have eT : t.heap.get? T = some oT := eT
  obtain ⟨vs, ts, da, dT, v1, v3⟩ := p.f
  obtain ⟨g, g1, g2⟩ := restrict t.heap fun b => !(decide (b = a) || decide (b = T))
  have gIn : ∀ b o, g.get? b = some o → t.heap.get? b = some o ∧ b ≠ a ∧ b ≠ T := fun b o e => by
    cases q : (!(decide (b = a) || decide (b = T))) with
    | false => rw [g2 b q] at e; cases e
    | true =>
      rw [g1 b q] at e
      simp only [Bool.not_eq_true', Bool.or_eq_false_iff, decide_eq_false_iff_not] at q
      exact ⟨e, q.1, q.2⟩
  have gOf : ∀ b o, b ≠ a → b ≠ T → t.heap.get? b = some o → g.get? b = some o := fun b o h1 h2 e => (g1 b (by simp [h1, h2])).trans e
  have I6 : Inv X pins τ G { t with heap := g } := J.less (fun b o e => (gIn b o e).1) gOf ⟨oe, vs, ea, da⟩ ⟨oT, ts, eT, dT⟩ na nT p.far0 p.farP
  have bno : ∀ b, (b = a ∨ b = T) → (PySem.W.hideAll g (frs X.stack)).get? b = none := fun b hb => by
    cases q : (PySem.W.hideAll g (frs X.stack)).get? b with
    | none => rfl
    | some o =>
      obtain ⟨_, n1, n2⟩ := gIn b o (PySem.W.of_hideAll _ q)
      exact hb.elim (fun z => absurd z n1) fun z => absurd z n2
  refine ⟨g, I6, ⟨fun b o e => (gIn b o (PySem.W.of_hideAll _ e)).1, bno a (.inl rfl), ?_, oe, vs, T, oT, ts, ea, p.z, da, v1, bno T (.inr rfl), p.ne, eT, dT, v3⟩, fun b o e => (gIn b o e).1, na⟩
  rw [← es]
  exact funFrames_none (B := PySem.W.hideAll g (frs X.stack)) J.stack fun b hb => PySem.W.hideAll_none _ hb
/-- it goes on: the flight is this frame's -/
theorem passes_up {M : Model} {A : Around} {E : Value → Shared → Prop} {Q : Flow → Shared → Prop} {lbl : String} {s : Shared} {B : Heap} {a : Addr} {Z : Obj → Prop} {fl : Value} (ef : X.env.frame = some X.env.locals) (air : AirF B (X.env :: X.outer) a Z fl s.heap)
    (k : ∀ h', HandSPX.HeldZ B (X.env :: X.outer) a Z X.env.locals h' → s.heap.UpToSlots h' → E (.ref a) { s with heap := h' }) : wpAny M A (PySem.passOn lbl (.ref a) X.env : Sem Flow) Q E s := by
  obtain ⟨f1, f2, f3, f4⟩ := id air
  obtain ⟨oe, vs, T, oT, ts, e1, z, e2, v1, _⟩ := id f4
  unfold PySem.passOn
  refine wpAny_bind (wpAny_field e1 e2 v1 ?_)
  rw [if_neg (show ¬ ((Value.ref T == Value.none) = true) from by simp)]
  have go : wpAny M A (setFlight (.ref a) X.env.frame) (fun _ s4 => wpAny M A (throw (.ref a) : Sem Flow) Q E s4) E s := by
    rw [ef]
    exact HandSPX.setFlight_anyZ f1 f3 f4 fun h' k1 k2 k3 k4 => wpAny_throw (k h' ⟨k1, f2, k2, k3⟩ k4)
  first
    | exact wpAny_bind (wpAny_pure (wpAny_bind go))
    | exact wpAny_bind go
end
section
variable {X : Cx} {pins : List (Addr × Obj)} {f0 : Stmt} {fs : List Stmt} {tfs : TS} {Wout : WX} {D : Ends}
/-- an exception that this frame has noted -/
def XHeld (X : Cx) (pins : List (Addr × Obj)) (W : WX) (u : Value) (s' : Shared) : Prop :=
  ∃ (a : Addr) (B : Heap) (sI : Shared) (τ : L2.St) (G : Hp) (cls : Value) (d : Option Addr), u = .ref a ∧ Inv X pins τ G sI ∧ (∀ b o, sI.heap.get? b = some o → b ∉ frs X.stack → B.get? b = some o) ∧ sI.heap.UpToSlots s'.heap ∧
    HandSPX.HeldZ B (X.env :: X.outer) a (Zc cls d) X.env.locals s'.heap ∧ G a = none ∧ s'.os = sI.os ∧ AllBare s'.gens ∧ W cls d τ G
abbrev FinR (X : Cx) (pins : List (Addr × Obj)) (f0 : Stmt) (fs : List Stmt) (D : Ends) : Value → Shared → Prop := FinallyRaised X.prog X.w X.A X.xe X.env (f0 :: fs) (SP X pins D)
theorem fin_held {u : Value} {s' : Shared} (es : X.stack = X.env :: X.outer) (ef : X.env.frame = some X.env.locals) (ex : X.ex = []) (ok : X.Ok) (tk : L2.Takes X Wout)
    (hsu : ∀ (a : Addr) (pn : List (Addr × Obj)), PSs (X.suite a pn) (f0 :: fs) tfs) (xx : XHeld X pins (wFin tfs Wout) u s') : FinR X pins f0 fs D u s' := by
  obtain ⟨a, B, sI, τ, G, cls, d, rfl, J, nb, up, hh, na, os, ag, hw⟩ := xx
  refine ⟨ref_ne_byPass a, HandSPX.againZ ef hh.2.2.2 (HandSPX.landsZ hh fun h3 fl3 up3 => ?_)⟩
  obtain ⟨T, oe, oT, p, _, S⟩ := pin_in (s' := { s' with heap := h3 }) es ef ex J nb (up.trans up3) fl3 na os ag
  refine wpAny_mono ((hsu a ((a, oe) :: (T, oT) :: (X.pn ++ pins))).run [] { s' with heap := h3 } τ G { nx := fun σ2 H2 => Wout cls d σ2 H2, rt := fun _ _ => False } (S (some (.ref a)) fun _ _ => False) hw) (fun g s6 hsp => ?_) fun _ _ z => z.elim
  cases g with
  | ret u => obtain ⟨_, _, _, _, _, q⟩ := hsp; exact q.elim
  | brk => obtain ⟨_, _, _, q⟩ := hsp; exact q.elim
  | cont => obtain ⟨_, _, _, q⟩ := hsp; exact q.elim
  | next =>
    obtain ⟨σ6, H6, S6, q6⟩ := hsp
    obtain ⟨g, I6, fl6, kp, na6⟩ := pin_out es p ok S6
    exact passes_up ef fl6 fun h7 hh7 up7 => tk _ _ ⟨a, PySem.W.hideAll g (frs X.stack), { s6 with heap := g }, pins, σ6, H6, cls, d, rfl, I6, fun b o e hb => PySem.W.hideAll_get _ e hb, Heap.UpToSlots.trans (Heap.UpToSlots.of_keeps kp) up7, .inr (.inr (by rw [← es] at hh7; exact hh7)), na6, rfl, S6.bare, q6⟩
/-- behind the suite the name is gone -/
def wGone (i : Nat) (W : WX) : WX := fun cls d σ H => W cls d (σ.set i none) H
/-- what becomes of an exception of the suite -/
def xeAs (X : Cx) (pins : List (Addr × Obj)) (f0 : Stmt) (fs : List Stmt) (D : Ends) (h : Option Value) (n : Str) (pos : Pos) : Value → Shared → Prop := fun x s₃ =>
  wpAny (model X.prog X.w) (X.A.mark h) (noteFrame x X.env) (fun _ s₃' => wpAny (model X.prog X.w) (X.A.mark h) (do bindName X.env n .none; unbindBehindTheSuite X.env n pos)
    (fun _ s₄ => wpAny (model X.prog X.w) (X.A.mark h) (PySem.passOn "try.except-as" x X.env : Sem Flow) (fun _ _ => False) (notedBy (model X.prog X.w) (X.A.mark h) X.env (cameBackBy (model X.prog X.w) X.A X.env (FinR X pins f0 fs D))) s₄)
    (fun y s₄ => wpAny (model X.prog X.w) (X.A.mark h) (setFlight x none) (fun _ s₅ => notedBy (model X.prog X.w) (X.A.mark h) X.env (cameBackBy (model X.prog X.w) X.A X.env (FinR X pins f0 fs D)) y s₅) (notedBy (model X.prog X.w) (X.A.mark h) X.env (cameBackBy (model X.prog X.w) X.A X.env (FinR X pins f0 fs D))) s₄) s₃')
    (notedBy (model X.prog X.w) (X.A.mark h) X.env (cameBackBy (model X.prog X.w) X.A X.env (FinR X pins f0 fs D))) s₃
theorem as_out {u : Value} {s' : Shared} {i : Nat} {n : Str} {pos : Pos} {h : Option Value} (es : X.stack = X.env :: X.outer) (ef : X.env.frame = some X.env.locals) (ex : X.ex = []) (ok : X.Ok) (tk : L2.Takes X Wout) (nd : X.N.Nodup) (hi : X.N[i]? = some n) (hl : X.env.kindOf n = some .local)
    (hsu : ∀ (a : Addr) (pn : List (Addr × Obj)), PSs (X.suite a pn) (f0 :: fs) tfs) (xx : L2.XE (X.tr (X.pn ++ pins) fun _ _ => False) (wGone i (wFin tfs Wout)) u s') : xeAs X pins f0 fs D h n pos u s' := by
  obtain ⟨e, B, sI, pins', τ, G, cls, d, rfl, J', nb, up, sky, na, os, ag, hw⟩ := xx
  have J : Inv X pins τ G sI := J'.ofTry ok
  have sky' : Sky B (X.env :: X.outer) e (Zc cls d) X.env.locals s'.heap := by rw [← es]; exact sky
  have fr : (X.A.mark h).frames = some (X.env :: X.outer) := by rw [← es]; exact ok.frames
  show wpAny _ _ (noteFrame (.ref e) X.env) _ _ _
  have fin : ∀ h1, HandSPX.HeldZ B (X.env :: X.outer) e (Zc cls d) X.env.locals h1 → s'.heap.UpToSlots h1 → wpAny (model X.prog X.w) (X.A.mark h) (do bindName X.env n .none; unbindBehindTheSuite X.env n pos)
      (fun _ s₄ => wpAny (model X.prog X.w) (X.A.mark h) (PySem.passOn "try.except-as" (.ref e) X.env : Sem Flow) (fun _ _ => False) (notedBy (model X.prog X.w) (X.A.mark h) X.env (cameBackBy (model X.prog X.w) X.A X.env (FinR X pins f0 fs D))) s₄)
      (fun y s₄ => wpAny (model X.prog X.w) (X.A.mark h) (setFlight (.ref e) none) (fun _ s₅ => notedBy (model X.prog X.w) (X.A.mark h) X.env (cameBackBy (model X.prog X.w) X.A X.env (FinR X pins f0 fs D)) y s₅) (notedBy (model X.prog X.w) (X.A.mark h) X.env (cameBackBy (model X.prog X.w) X.A X.env (FinR X pins f0 fs D))) s₄) { s' with heap := h1 } := fun h1 hh1 up1 => by
    obtain ⟨T, oe, oT, p, _, S⟩ := pin_in (s' := { s' with heap := h1 }) es ef ex J nb (up.trans up1) hh1 na os ag
    refine gone_ok (X := suiteA X h ((e, oe) :: (T, oT) :: (X.pn ++ pins)) fun _ _ => False) (S h fun _ _ => False) nd hi hl fun s7 S7 => ?_
    obtain ⟨g, I7, fl7, kp, na7⟩ := pin_out es p ok S7
    refine passes_up ef fl7 fun h8 hh8 up8 => ?_
    refine kfy_passesAt (SameStack.mark X.A h) _ _ (fin_held es ef ex ok tk hsu ⟨e, PySem.W.hideAll g (frs X.stack), { s7 with heap := g }, _, _, cls, d, rfl, I7, fun b o e hb => PySem.W.hideAll_get _ e hb, Heap.UpToSlots.trans (Heap.UpToSlots.of_keeps kp) up8, hh8, na7, rfl, S7.bare, hw⟩)
  rcases sky' with ⟨hB, hn, hf, oe, vs, he, hz, hd, h1⟩ | fl | hh
  · exact HandSPX.look_newZ Zc.steady fr hf ef he hB hn hd h1 hz fin
  · exact HandSPX.looks_onZ Zc.steady fr ef fl fin
  · exact HandSPX.againZ ef hh.2.2.2 (fin s'.heap hh (Heap.UpToSlots.refl _))
/-- raise, alone, in the suite -/
theorem ps_bare {W : WX} {a T : Addr} {oe oT : Obj} {cls : Value} {d : Option Addr} {xe : Value → Shared → Prop} {pos : Pos} (es : X.stack = X.env :: X.outer) (ef : X.env.frame = some X.env.locals) (ok : X.Ok) (p : Pnd X pins a T oe oT (Zc cls d) .none)
    (tk : ∀ u s', L2.XE (X.tr (X.pn ++ pins) fun _ _ => False) W u s' → xe u s') : PS (suiteA X (some (.ref a)) ((a, oe) :: (T, oT) :: (X.pn ++ pins)) xe) (.Raise none none pos) (fun _ σ H => W cls d σ H) := by
  refine ⟨fun pn' s σ H D I h => PySem.wpAny_Raise_bare ?_⟩
  obtain ⟨g, I6, fl6, kp, na6⟩ := pin_out es p ok I
  obtain ⟨f1, f2, f3, f4⟩ := id fl6
  obtain ⟨oe', vs, T', oT', ts, e1, z, e2, v1, _⟩ := id f4
  have go : wpAny (model X.prog X.w) (X.A.mark (some (.ref a))) (setFlight (.ref a) X.env.frame) (fun _ s4 => wpAny (model X.prog X.w) (X.A.mark (some (.ref a))) (throw (.ref a) : Sem Flow) (SP (suiteA X (some (.ref a)) ((a, oe) :: (T, oT) :: (X.pn ++ pins)) xe) pn' D) xe s4) xe s := by
    rw [ef]
    refine HandSPX.setFlight_upZ fl6 fun h' hh up' => wpAny_throw (tk _ _ ⟨a, PySem.W.hideAll g (frs X.stack), { s with heap := g }, [], σ, H, cls, d, rfl, I6.toTry _, fun b o e hb => PySem.W.hideAll_get _ e hb, Heap.UpToSlots.trans (Heap.UpToSlots.of_keeps kp) up', .inr (.inr ?_), na6, rfl, I.bare, h⟩)
    rw [← es] at hh
    exact hh
  unfold raiseBare raiseStmt
  dsimp only
  refine wpAny_bind (wpAny_handled ?_)
  dsimp only [Around.mark]
  refine wpAny_bind (wpAny_rule ?_)
  refine wpAny_bind (wpAny_field e1 e2 v1 ?_)
  rw [if_neg (show ¬ ((Value.ref T' == Value.none) = true) from by simp)]
  first
    | exact wpAny_bind go
    | exact wpAny_bind (wpAny_pure (wpAny_bind go))
end
end IC
namespace IC
open PySem PySem.Spec PyProof.Rows L2 L2H
open PySem.W (Looks)
/-! ### a tuple of classes behind except -/
theorem exm_excs {M : Model} {A : Around} {E : Value → Shared → Prop} {K : PySem.W.Frag} {cls : Value} {h : Heap} (X : K.In h) : ∀ {cs : List Value} {b : Bool} {s : Shared} {Q : PUnit → Shared → Prop}, (∀ b o, h.get? b = some o → s.heap.get? b = some o) → PySem.W.exmAny K cls cs = some b → Q PUnit.unit s →
    wpAny M A (forIn cs PUnit.unit fun c _ => do
      if !(← isExcClass c) then
        rule "try.except-non-exception-class"
        raiseError "TypeError" "catching classes that do not inherit from BaseException is not allowed"
      pure (ForInStep.yield PUnit.unit)) Q E s
  | [], _, _, _, _, _, q => by
    rw [List.forIn_nil]
    exact wpAny_pure q
  | c :: cs, _, _, _, k, e, q => by
    obtain ⟨b1, d1, x1, y1, z1⟩ := PySem.W.exmAny_cons e
    obtain ⟨e1, S1⟩ := PySem.W.exm_cls (M := M) X x1
    rw [List.forIn_cons]
    refine wpAny_bind (wpAny_bind ((e1.keeps k).here ?_))
    simp only [Bool.not_true, Bool.false_eq_true, if_false]
    refine wpAny_pure ?_
    exact exm_excs X k y1 q
theorem exm_subs {M : Model} {A : Around} {E : Value → Shared → Prop} {K : PySem.W.Frag} {cls : Value} {h : Heap} (X : K.In h) : ∀ {cs : List Value} {b : Bool} {s : Shared} {Q : Option Bool × PUnit → Shared → Prop}, (∀ b o, h.get? b = some o → s.heap.get? b = some o) → PySem.W.exmAny K cls cs = some b → Q (if b = true then (some true, PUnit.unit) else (none, PUnit.unit)) s →
    wpAny M A (forIn cs ((none : Option Bool), PUnit.unit) fun c _ => do
      if (← isSubtype cls c) = true then pure (ForInStep.done (some true, PUnit.unit)) else pure (ForInStep.yield (none, PUnit.unit))) Q E s
  | [], b, _, _, _, e, q => by
    have e : some false = some b := e
    cases e
    rw [List.forIn_nil]
    exact wpAny_pure q
  | c :: cs, b, _, Q, k, e, q => by
    obtain ⟨b1, d1, x1, y1, z1⟩ := PySem.W.exmAny_cons e
    obtain ⟨e1, S1⟩ := PySem.W.exm_cls (M := M) X x1
    rw [List.forIn_cons]
    refine wpAny_bind (wpAny_bind ((S1.keeps k).here ?_))
    subst z1
    cases b1 with
    | true =>
      rw [if_pos rfl]
      exact wpAny_pure (wpAny_pure q)
    | false =>
      rw [if_neg Bool.false_ne_true]
      exact wpAny_pure (exm_subs X k y1 q)
theorem exm_tupL {M : Model} {K : PySem.W.Frag} {cs : List Value} {cls : Value} {tp e : Addr} {b : Bool} {h : Heap} (X : K.In h) (LT : Looks M h (typeOf (.ref e)) cls) (hp : IsTup h tp cs.toArray) (hx : PySem.W.exmAny K cls cs = some b) : Looks M h (excMatches (.ref e) (.ref tp)) b := by
  intro A Q E s k q
  obtain ⟨o, ho, oc, n, od⟩ := id hp
  have LT0 : Looks M h (isInstance (.ref tp) (.type "tuple")) true := fun A Q E s k q => wpAny_isInstance (T := "tuple") (b := true) ⟨o, k _ _ ho, oc⟩ PySem.isSubtype_tuple_tuple q
  unfold excMatches
  refine wpAny_bind ((LT0.keeps k).here ?_)
  rw [if_pos rfl]
  refine wpAny_bind (wpAny_seqItems (k _ _ ho) od ?_)
  refine wpAny_bind (wpAny_pure ?_)
  refine wpAny_bind (exm_excs X k hx ?_)
  refine wpAny_bind ((LT.keeps k).here ?_)
  refine wpAny_bind (exm_subs X k hx ?_)
  cases b
  · exact wpAny_pure q
  · exact wpAny_pure q
/-! ### the statement -/
theorem refs_of : ∀ {ds : List Addr} {us : List Value}, Vals (ds.map V.ref) us → us = ds.map Value.ref
  | [], _, h => by cases h; rfl
  | d :: ds, _, h => by
    cases h with
    | cons r s =>
      rw [refs_of s]
      have r : _ = Value.ref d := r
      rw [r]
      rfl
/-- what is wished of an exception of the body: a clause names it, and its suite raises -/
def wTF (K : PySem.W.Frag) (tcl : TE) (i : Nat) (ts : Addr → Value → Option Addr → WX → TS) (tfs : TS) (Wout : WX) : WX := fun cls d σ H => tcl σ H fun v H1 => ∃ (tp : Addr) (ds : List Addr), v = .ref tp ∧ SqT K H1 tp (ds.map V.ref) ∧
  PySem.W.exmAny K cls (ds.map Value.ref) = some true ∧ ∀ a, H1 a = none → ts a cls d (wGone i (wFin tfs Wout)) { nx := fun _ _ => False, rt := fun _ _ => False } (σ.set i (some (.ref a))) H1
abbrev FinN (X : Cx) (pins : List (Addr × Obj)) (f0 : Stmt) (fs : List Stmt) (D : Ends) : Flow → Shared → Prop := fun f' s₃ =>
  wpAny (model X.prog X.w) X.A (execs (f0 :: fs) X.env) (fun g s' => match g with | .next => SP X pins D f' s' | g => SP X pins D g s') (notedBy (model X.prog X.w) X.A X.env (cameBackBy (model X.prog X.w) X.A X.env X.xe)) s₃
theorem ps_tryFin {X : Cx} {te : Expr} {n : Str} {i : Nat} {body suite fs : List Stmt} {b0 f0 : Stmt} {pos pos' : Pos} {tb : WX → TS} {tcl : TE} {ts : Addr → Value → Option Addr → WX → TS} {tf tfs : TS} {Wout : WX}
    (es : X.stack = X.env :: X.outer) (ef : X.env.frame = some X.env.locals) (ex : X.ex = []) (nd : X.N.Nodup) (hi : X.N[i]? = some n) (hl : X.env.kindOf n = some .local) (tk : L2.Takes X Wout)
    (hb : ∀ (W : WX) (pn : List (Addr × Obj)) (xe : Value → Shared → Prop), L2N.Takes (X.tr pn xe) W → PassesOwn (model X.prog X.w) X.A X.env xe → PSs (X.tr pn xe) body (tb W))
    (hcl : ∀ (a : Addr) (pn : List (Addr × Obj)), PE (X.suite a pn) te tcl)
    (hsu : ∀ (a : Addr) (oe : Obj) (cls : Value) (d : Option Addr) (pn : List (Addr × Obj)) (xe : Value → Shared → Prop) (W : WX), L2N.Zn cls d oe → (∃ vs, oe.data = .fields vs) → L2.Takes (suiteA X (some (.ref a)) ((a, oe) :: pn) xe) W → HotC (suiteA X (some (.ref a)) ((a, oe) :: pn) xe) →
      (∀ p : Pos, PS (suiteA X (some (.ref a)) ((a, oe) :: pn) xe) (.Raise none none p) (fun _ σ H => W cls d σ H)) → PSs (suiteA X (some (.ref a)) ((a, oe) :: pn) xe) (b0 :: suite) (ts a cls d W))
    (hfn : PSs X.nox (f0 :: fs) tf) (hfs : ∀ (a : Addr) (pn : List (Addr × Obj)), PSs (X.suite a pn) (f0 :: fs) tfs) :
    PS X (.Try body [.ExceptHandler (some te) (some n) (b0 :: suite) pos'] [] (f0 :: fs) pos) (fun D σ H => tb (wTF X.K tcl i ts tfs Wout) { nx := fun τ G => tf D τ G, rt := fun _ _ => False } σ H) := by
  refine ⟨fun pins s σ H D I h => wpAny_Try_except_finally ?_⟩
  have ok := I.ok
  have fr : X.A.frames = some (X.env :: X.outer) := by rw [ok.frames, es]
  refine wpAny_mono ((hb (wTF X.K tcl i ts tfs Wout) (X.pn ++ pins) (fun e s₁ => wpAny (model X.prog X.w) X.A (noteFrame e X.env) (fun _ s₂ => wpAny (model X.prog X.w) X.A (setFlight e none) (fun _ s₃ =>
    wpAny (model X.prog X.w) X.A (handleBy e X.env [.ExceptHandler (some te) (some n) (b0 :: suite) pos']) (FinN X pins f0 fs D) (FinR X pins f0 fs D) s₃) (FinR X pins f0 fs D) s₂) (FinR X pins f0 fs D) s₁) (fun u s' air => ?_) PassesOwn.looking).run [] s σ H _ (I.toTry _) h) (fun f s1 hsp => ?_) (fun _ _ z => z)
  · obtain ⟨a, B, sI, pins', τ, G, cls, d, rfl, J1, nb, up, sky, na, os, ag, wish⟩ := air
    have J : Inv X pins τ G sI := J1.ofTry ok
    rw [show (X.tr (X.pn ++ pins) _).stack = X.env :: X.outer from es] at sky
    show wpAny _ _ (noteFrame (.ref a) X.env) _ _ _
    refine L2N.Sky.land L2N.Zn.steady fr ef sky fun h3 fly up3 => ?_
    obtain ⟨T, oe, oT, p, e1, S⟩ := pin_in (s' := { s' with heap := h3 }) es ef ex J nb (up.trans up3) fly na os ag
    refine wpAny_handleBy_cons (codeAny_handlers_test ?_) (by intro q; cases q)
    refine wpAny_mono ((hcl a ((a, oe) :: (T, oT) :: (X.pn ++ pins))).run [] _ τ G _ (S (some (.ref a)) fun _ _ => False) wish) (fun c s4 hv => ?_) (fun _ _ z => z.elim)
    obtain ⟨v, G1, S4, rv, tp, ds, ev, etp, ex1, go⟩ := hv
    subst ev
    obtain rfl : c = Value.ref tp := rv
    obtain ⟨its, vals, ht, _⟩ := S4.tuple etp
    rw [refs_of vals] at ht
    have ea := (S4.pin (a, oe) (List.mem_append_left _ List.mem_cons_self)).1
    have typ : Looks (model X.prog X.w) s4.heap (typeOf (.ref a)) cls := fun A Q E s k q => wpAny_typeOf_ref (k _ _ ea) (by rw [p.z.1]; exact q)
    refine (exm_tupL (M := model X.prog X.w) S4.kIn typ ht ex1).here ?_
    obtain ⟨g, I5, fly5, kp, na5⟩ := pin_out es p ok S4
    refine codeAny_handlers_suite_as (HandSPX.lands_againZ fly5 fun h6 fly6 up6 => ?_)
    obtain ⟨T6, oe6, oT6, p6, e6, S6⟩ := pin_in (s' := { s4 with heap := h6 }) es ef ex I5 (fun b o e hb => PySem.W.hideAll_get _ e hb) (Heap.UpToSlots.trans (Heap.UpToSlots.of_keeps kp) up6) fly6 na5 rfl S4.bare
    refine store_ok (X := suiteA X (some (.ref a)) ((a, oe6) :: (T6, oT6) :: (X.pn ++ pins)) (xeAs X pins f0 fs D (some (.ref a)) n pos')) (v := .ref a) (S6 _ _) nd hi (.inl hl) rfl (fun s7 S7 => ?_) (.inr hl)
    have tkS : ∀ u s', L2.XE (X.tr (X.pn ++ pins) fun _ _ => False) (wGone i (wFin tfs Wout)) u s' → xeAs X pins f0 fs D (some (.ref a)) n pos' u s' := fun u s' x => as_out es ef ex ok tk nd hi hl hfs x
    have fd : ∃ vs, oe6.data = .fields vs := p6.f.imp fun _ q => q.elim fun _ q => q.1
    have hot : HotC (suiteA X (some (.ref a)) ((a, oe6) :: (T6, oT6) :: (X.pn ++ pins)) (xeAs X pins f0 fs D (some (.ref a)) n pos')) := ⟨(a, oe6), ⟨rfl, fd.imp fun vs q => ⟨q, p6.z.2.2 vs q⟩⟩, List.mem_cons_self⟩
    have run := (hsu a oe6 cls d ((T6, oT6) :: (X.pn ++ pins)) (xeAs X pins f0 fs D (some (.ref a)) n pos') (wGone i (wFin tfs Wout)) p6.z fd (fun u2 s2 x2 => by
      obtain ⟨a2, B2, sI2, pn2, σ2, H2, cls2, d2, e2, I2, r2⟩ := x2
      exact tkS u2 s2 ⟨a2, B2, sI2, [], σ2, H2, cls2, d2, e2, (Inv.bareA I2 ok).toTry _, r2⟩) hot (fun p => ps_bare es ef ok ⟨p6.z.zc, p6.f, p6.ne, p6.far0, p6.farP⟩ tkS)).run [] s7 _ G1 _ S7 (go a na5)
    refine wpAny_mono run (fun f s8 hsp => ?_) (fun _ _ z => z)
    cases f with
    | ret u => obtain ⟨_, _, _, _, _, q⟩ := hsp; exact q.elim
    | brk => obtain ⟨_, _, _, q⟩ := hsp; exact q.elim
    | cont => obtain ⟨_, _, _, q⟩ := hsp; exact q.elim
    | next => obtain ⟨_, _, _, q⟩ := hsp; exact q.elim
  · cases f with
    | ret u => obtain ⟨_, _, _, _, _, q⟩ := hsp; exact q.elim
    | brk => obtain ⟨_, _, _, q⟩ := hsp; exact q.elim
    | cont => obtain ⟨_, _, _, q⟩ := hsp; exact q.elim
    | next =>
      obtain ⟨τ, G, J, q⟩ := hsp
      refine wpAny_execs_nil (wpAny_mono (hfn.run pins s1 τ G D ((J.ofTry ok).wish _) q) (fun g s2 r => ?_) (fun _ _ z => z.elim))
      have r' : SP X pins D g s2 := r.unwish
      cases g <;> exact r'
end IC
namespace IC
open PySem L2 TL PyProof.Rows NdefX LamX
/-! ### defs that are handed a function with cells of its own: what the cells hold is known of the state -/
theorem CellsAt.late {X : Cx} {pins : List (Addr × Obj)} {σ : L2.St} {H : Hp} {s : Shared} {cl : List (Str × Addr)} {fr : List Str} {ws : List (Option V)} (C : CellsAt cl fr ws X.s_0.heap X.H_0) (hx : X.ex = []) (I : Inv X pins σ H s) : CellsAt cl fr ws s.heap H := by
  have nx : ∀ c, c ∉ X.ex := fun c => by rw [hx]; simp
  have kp : ∀ y c, cl.lookup y = some c → ∀ v, X.s_0.heap.IsCell c v → s.heap.IsCell c v := fun y c e v ⟨o, ho, hd⟩ => by
    obtain ⟨sl, q⟩ := I.base.any ho (C.all y c e).1 (nx c)
    exact ⟨_, q, hd⟩
  refine ⟨C.len, fun y c e => ?_, C.inj, fun i y e => ?_⟩
  · obtain ⟨n, v, z⟩ := C.all y c e
    refine ⟨?_, v, kp y c e v z⟩
    obtain ⟨o, ho, _⟩ := z
    exact I.base.free c o ho n (nx c)
  · obtain ⟨c, hc, hv⟩ := C.has i y e
    refine ⟨c, hc, fun v ev => ?_⟩
    obtain ⟨u, r, z⟩ := hv v ev
    exact ⟨u, r, kp y c hc _ z⟩
/-- the cells' names, their addresses and what they hold -/
abbrev SpC := List (Str × Addr) → List (Option V) → Sp
structure FnS (P : Program) (w : World) (K : PySem.W.Frag) (mg : Str → Option Value) (base : Heap) (CX : CXT) (k : Nat) (f : Addr) (fd : FuncData) (ps fr : List Str) (sp : SpC) : Prop where
  many : ∀ cl ws vs H Q E, sp cl ws vs H Q E → vs.length = ps.length
  run : ∀ (A : Around) (outer : List Env) (s : Shared) (H : Hp) (args : Args) (us : List Value) (vs : List V) (Q : VK) (E : XK) (cl : List (Str × Addr)) (ws : List (Option V)), Room k A → Env0 P w K mg base A outer s H → BindsTo s fd args (ps.zip us) → Vals vs us → CellsAt cl fr ws s.heap H → sp cl ws vs H Q E →
    codeAny (model P w) A (.call (.ref f) args) (CR CX outer P w H s Q E) s
section
variable {P : Program} {w : World} {K : PySem.W.Frag} {mg : Str → Option Value} {base : Heap} {CX : CXT}
theorem FunD.okS {x qual : Str} {pa : Arguments} {bd : List Stmt} {sc : Scope} {dvs : List V} {kws : List (Str × V)} {fa : Addr} {fd : FuncData} {M ps fr : List Str} {n : Nat} {sp : SpC} (D : FunD K x qual pa bd sc dvs kws fa fd) (S : FnScope M ps sc) (len : ∀ cl ws vs H Q E, sp cl ws vs H Q E → vs.length = ps.length)
    (walk : ∀ (cdv : Value) (B : Around) (out : List Env) (s : Shared) (H : Hp) (vs : List V) (Q : VK) (E : XK) (cl : List (Str × Addr)) (ws : List (Option V)), Room n (B.deeper (envOfC qual sc s.heap.objs.size fa cdv)) → CellsAt cl fr ws s.heap H → sp cl ws vs H Q E →
      ∃ t, PSs (cxOf CX P w K mg base M qual sc fa cdv B out s H E) bd t ∧ t { nx := fun _ G => Q .non G, rt := Q } (L2.start M vs) H) : FnS P w K mg base CX (n + 1) fa fd ps fr sp := by
  obtain ⟨_, _, _, _, _, _, _, cv, _, _, rfl, at_, code, _, _⟩ := D.ex
  constructor
  · exact len
  · intro B out s H args us vs Q E cl ws room env bind rel C wish
    have keepK : K.In s.heap := env.mod.kin.keeps fun b o e => (env.bs b o e).1
    have keepL : s.heap.NoLimit := env.mod.nolimit.keeps fun b o e => (env.bs b o e).1
    refine codeAny_call_function room.depth (keepK _ _ at_) rfl S.co S.gen rfl (PySem.W.codeRec_of keepK code) (bind _ _ _ _ (wpAny_newFunctionEnv_cells S.kind (fun y hy => ?_) fun ev eqv s1 x => ?_))
    · rcases S.par y.1 (List.of_mem_zip hy).1 with q | q
      · exact .inl q
      · exact .inr (And.intro q (PySem.W.cellsFrom_some _ _ _ (Or.inl q)))
    · subst eqv
      rcases walk cv B out s H vs Q E cl ws (room.deeper _) C wish with ⟨t, body, goal⟩
      have J := inv_start (CX := CX) (E := E) S room.hd env (len _ _ _ _ _ _ wish) rel x
      refine ⟨keepL.keeps x.toInCall.keep, codeAny_func (wpAny_mono (body.run [] s1 (L2.start M vs) H _ J goal) (fun fl s2 done => ?_) fun _ _ z => z)⟩
      cases fl with
      | ret u => rcases done with ⟨v, _, G, J2, r2, q⟩; exact ⟨v, G, J2.os, J2.bare, J2.base, J2.hok, r2, q⟩
      | next => rcases done with ⟨_, G, J2, q⟩; exact ⟨V.non, G, J2.os, J2.bare, J2.base, J2.hok, rfl, q⟩
      | brk => exact done.elim fun _ h => h.elim fun _ h => h.2.elim
      | cont => exact done.elim fun _ h => h.elim fun _ h => h.2.elim
theorem Fun.okS {x qual : Str} {st : Stmt} {fa : Addr} {fd : FuncData} {M ps fr : List Str} {n : Nat} {sp : SpC} (D : Fun K x qual st fa fd) (S : FnScope M ps (defScope st)) (len : ∀ cl ws vs H Q E, sp cl ws vs H Q E → vs.length = ps.length)
    (walk : ∀ (cdv : Value) (B : Around) (out : List Env) (s : Shared) (H : Hp) (vs : List V) (Q : VK) (E : XK) (cl : List (Str × Addr)) (ws : List (Option V)), Room n (B.deeper (envOfC qual (defScope st) s.heap.objs.size fa cdv)) → CellsAt cl fr ws s.heap H → sp cl ws vs H Q E →
      ∃ t, PSs (cxOf CX P w K mg base M qual (defScope st) fa cdv B out s H E) (defBody st) t ∧ t { nx := fun _ G => Q .non G, rt := Q } (L2.start M vs) H) : FnS P w K mg base CX (n + 1) fa fd ps fr sp := by
  rcases D.ex with ⟨_, _, _, _, _, _, cv, _, _, rfl, at_, code⟩
  constructor
  · exact len
  · intro B out s H args us vs Q E cl ws room env bind rel C wish
    have keepK : K.In s.heap := env.mod.kin.keeps fun b o e => (env.bs b o e).1
    have keepL : s.heap.NoLimit := env.mod.nolimit.keeps fun b o e => (env.bs b o e).1
    refine codeAny_call_function room.depth (keepK _ _ at_) rfl S.co S.gen rfl (PySem.W.codeRec_of keepK code) (bind _ _ _ _ (wpAny_newFunctionEnv_cells S.kind (fun y hy => ?_) fun ev eqv s1 x => ?_))
    · rcases S.par y.1 (List.of_mem_zip hy).1 with q | q
      · exact .inl q
      · exact .inr (And.intro q (PySem.W.cellsFrom_some _ _ _ (Or.inl q)))
    · subst eqv
      rcases walk cv B out s H vs Q E cl ws (room.deeper _) C wish with ⟨t, body, goal⟩
      have J := inv_start (CX := CX) (E := E) S room.hd env (len _ _ _ _ _ _ wish) rel x
      refine ⟨keepL.keeps x.toInCall.keep, codeAny_func (wpAny_mono (body.run [] s1 (L2.start M vs) H _ J goal) (fun fl s2 done => ?_) fun _ _ z => z)⟩
      cases fl with
      | ret u => rcases done with ⟨v, _, G, J2, r2, q⟩; exact ⟨v, G, J2.os, J2.bare, J2.base, J2.hok, r2, q⟩
      | next => rcases done with ⟨_, G, J2, q⟩; exact ⟨V.non, G, J2.os, J2.bare, J2.base, J2.hok, rfl, q⟩
      | brk => exact done.elim fun _ h => h.elim fun _ h => h.2.elim
      | cont => exact done.elim fun _ h => h.elim fun _ h => h.2.elim
end
/-! ### the calls -/
/-- f(..), f a def of the module that is handed a function made here; js: where the captured names stand -/
structure DfS (P : Program) (w : World) (K : PySem.W.Frag) (mg : Str → Option Value) (base : Heap) (k : Nat) (x : Str) (ps fr : List Str) (sp : SpC) : Prop where
  ex : ∃ (f : Addr) (fd : FuncData), FnS P w K mg base CX0 k f fd ps fr sp ∧ mg x = some (.ref f) ∧ PySem.W.keepIn K (.ref f) = true ∧ Binds K fd ps []
def tCallS (cl : List (Str × Addr)) (js : List Nat) (sp : SpC) (t : TA) : TE := fun σ H Q => t σ H fun vs H1 => sp cl (js.map (slotAt σ)) vs H1 Q E0
theorem pe_dfS {X : Cx} {k j : Nat} {ps fr : List Str} {sp : SpC} {x : Str} {q pos : Pos} {e : Expr} {es : List Expr} {t : TA} {cl : List (Str × Addr)} {js : List Nat} (D : DfS X.prog X.w X.K X.mg X.base k x ps fr sp) (cp : X.Ok → Caps X cl fr js) (hr : Room j X.A) (hj : k ≤ j) (hg : Gl X x)
    (ha : PA X (e :: es) t) (hdb : (x == ("__debug__" : Str)) = false := by decide) (he : starEach (e :: es) X.env = (false, eval e X.env) :: starEach es X.env := by rfl) (hpl : (backTo pos (starEach es X.env)).any (·.1) = false := by rfl) :
    PE X (.Call (.Name x q) (e :: es) [] pos) (tCallS cl js sp t) := by
  obtain ⟨f, fd, F, hm, hk, hb⟩ := D.ex
  refine ⟨fun pins s σ H Q I h => wpAny_Call_Name_kw (ld_glob I hg hm ?_ hdb)⟩
  refine PySem.W.callWith_K (h₀ := X.base) I.ok.mod.kin hk (thn (ha.run pos pins s σ H _ I h) fun us s1 ⟨vs, H1, I1, r, q⟩ => ⟨I1.kIn, ?_⟩) he hpl
  have hl : us.length = ps.length := by rw [← r.length]; exact F.many _ _ _ _ _ _ q
  have b := hb s1 us I1.kIn (by rw [List.append_nil]; exact hl)
  rw [List.append_nil] at b
  refine wpAny_call (codeAny_mono (F.run X.A X.stack s1 H1 ⟨us, []⟩ us vs Q E0 cl _ (hr.mono hj) I1.env0 b r (cells_of I1 (cp I1.ok)) q) fun r s' hq => ?_)
  match r, hq with
  | .error e, hq => exact pass0 pins σ H1 s1 e s' I1 hq
  | .ok (.ret u), hq => exact I1.after hq
  | .ok .next, hq => exact False.elim hq
  | .ok .brk, hq => exact False.elim hq
  | .ok .cont, hq => exact False.elim hq
/-- o.m(e, .., k = v, ..): m is handed a function whose cells stand in sight -/
structure KDfS (P : Program) (w : World) (K : PySem.W.Frag) (mg : Str → Option Value) (base : Heap) (CX : CXT) (k : Nat) (C : Addr) (m : Str) (n : Nat) (ks : List Str) (gV : List V → List V → List V) (ps fr : List Str) (sp : SpC) : Prop where
  ex : ∃ (f : Addr) (fd : FuncData) (g : List Value → List Value → List Value), FnS P w K mg base CX k f fd ps fr sp ∧ Meth K C m f ∧ KBn K fd ps (n + 1) ks g gV
def tMethKS (C : Addr) (m : Str) (n j : Nat) (sp : SpC) (cl : List (Str × Addr)) (wf : L2.St → List (Option V)) (gV : List V → List V → List V) (E : L2.St → XK) (ta : TE) (t tk : TA) : TE := fun σ H Q => ta σ H fun x H1 => ∃ a dx fs, x = .ref a ∧ H1 a = some (.ins C dx fs) ∧ fs.lookup m = none ∧
  t σ H1 fun vs H2 => tk σ H2 fun zs H3 => vs.length = n ∧ zs.length = j ∧ sp cl (wf σ) (gV (x :: vs) zs) H3 Q (E σ)
theorem pe_mdXKS {X : Cx} {k j n : Nat} {C : Addr} {m : Str} {ks ps fr : List Str} {gV : List V → List V → List V} {sp : SpC} {o e : Expr} {es : List Expr} {kws : List Keyword} {pos apos : Pos} {ta : TE} {t u : TA} {pl : Sem Bool} {W : WX} {cl : List (Str × Addr)} {wf : L2.St → List (Option V)}
    (D : KDfS X.prog X.w X.K X.mg X.base (L2.CX X.prog X.w) k C m n ks gV ps fr sp) (hC : ∀ (pins : List (Addr × Obj)) (σ : L2.St) (H : Hp) (s : Shared), Inv X pins σ H s → CellsAt cl fr (wf σ) s.heap H) (c : Cls X.K C) (tk : Takes X W) (hr : Room j X.A) (hk : k ≤ j) (he : PE X o ta) (ha : PA X (e :: es) t) (hw : PK X kws u)
    (hall : (backToKw pos (keywordEach kws X.env)).all (·.1.isSome) = true := by rfl) (hks : (backToKw pos (keywordEach kws X.env)).filterMap (·.1) = ks := by rfl)
    (hst : starEach (e :: es) X.env = (false, eval e X.env) :: starEach es X.env := by rfl) (hpl : ((backTo pos (starEach (e :: es) X.env)).any (·.1) || (backToKw pos (keywordEach kws X.env)).any (·.1.isNone)) = false := by rfl)
    (ht : eval (.Call (.Attribute o m apos) (e :: es) kws pos) X.env = (do
      let ov ← eval o X.env; standAt apos.atName
      let (f, first) ← holding [ov] (getMethod ov m pl); callWith pos f first (backTo pos (starEach (e :: es) X.env)) (backToKw pos (keywordEach kws X.env))) := by rfl) :
    PE X (.Call (.Attribute o m apos) (e :: es) kws pos) (tMethKS C m n ks.length sp cl wf gV (WE W) ta t u) := by
  obtain ⟨f, fd, g, F, hm, hb⟩ := D.ex
  refine ⟨fun pins s σ H Q I h => PySem.W.methodCall_KW (pl := pl) (thn (he.run pins s σ H _ I h) fun v s1 ⟨x, H1, I1, rx, a, dx, fs, ex, ea, l, q⟩ => ?_) ht⟩
  subst ex
  obtain rfl : v = Value.ref a := rx
  refine getmeth_ok I1 ea c hm l (PySem.W.callWith_KW (first := [.ref a]) (h₀ := X.base) I1.ok.mod.kin hm.kp hall (thn (ha.run pos pins s1 σ H1 _ I1 q) fun us s2 ⟨vs, H2, I2, r, q2⟩ => ?_) hpl hst)
  refine thn (hw.run pos pins s2 σ H2 _ I2 q2) fun ws s3 ⟨zs, H3, I3, rz, l1, l2, q3⟩ => ⟨I3.kIn, ?_⟩
  rw [hks]
  have r1 : Vals (V.ref a :: vs) (Value.ref a :: us) := .cons rfl r
  have n1 : (Value.ref a :: us).length = n + 1 := by rw [← r1.length, List.length_cons, l1]
  refine wpAny_call (codeAny_mono (F.run X.A X.stack s3 H3 ⟨Value.ref a :: us, ks.zip ws⟩ (g (Value.ref a :: us) ws) (gV (V.ref a :: vs) zs) Q (WE W σ) cl _ (hr.mono hk) I3.env0 (hb.to s3 _ ws I3.kIn n1 (by rw [← rz.length]; exact l2)) (hb.rel r1 rz) (hC _ _ _ _ I3) q3) fun r s' hq => ?_)
  match r, hq with
  | .error er, hq => exact passAt tk σ pins H3 s3 er s' I3 hq
  | .ok (.ret z), hq => exact I3.after hq
  | .ok .next, hq => exact False.elim hq
  | .ok .brk, hq => exact False.elim hq
  | .ok .cont, hq => exact False.elim hq
/-- g(..), g a name that was handed to the running def, whose cells stood in sight at its start -/
def tCallD (mk : List (Str × Addr) → Addr → NF) (i : Nat) (cl : List (Str × Addr)) (ws : List (Option V)) (sp : Addr → Addr → List (Option V) → Sp) (E : L2.St → XK) (t : TA) : TE := fun σ H Q => ∃ f c', σ[i]? = some (some (.ref f)) ∧ H f = some (FnO f (mk cl c')) ∧
  t σ H fun vs H1 => H1 f = some (FnO f (mk cl c')) ∧ H1 (mk cl c').c = some (CodeO (mk cl c').c (mk cl c').qual) ∧ sp f c' ws vs H1 Q (E σ)
theorem pe_calldN {X : Cx} {mk : List (Str × Addr) → Addr → NF} {cl : List (Str × Addr)} {ws : List (Option V)} {ps fr : List Str} {i j k : Nat} {x : Str} {sp : Addr → Addr → List (Option V) → Sp} {t : TA} {e : Expr} {es : List Expr} {p pos : Pos} {W : WX}
    (Fn : ∀ f c', NOk X.prog X.w X.K X.mg X.base (L2N.CX X.prog X.w) k f (mk cl c') ps fr (sp f c')) (hcl : ∀ c', (mk cl c').cl = cl) (C : CellsAt cl fr ws X.s_0.heap X.H_0) (hex : X.ex = []) (tk : L2N.Takes X W) (hr : Room j X.A) (hk : k ≤ j) (hN : X.N[i]? = some x) (hv : Vis X.env.scope x) (ha : PA X (e :: es) t)
    (hd : (x == ("__debug__" : Str)) = false := by decide) (hcd : (x == ("__classdict__" : Str)) = false := by decide)
    (he : starEach (e :: es) X.env = (false, eval e X.env) :: starEach es X.env := by rfl) (hpl : (backTo pos (starEach es X.env)).any (·.1) = false := by rfl) :
    PE X (.Call (.Name x p) (e :: es) [] pos) (tCallD mk i cl ws sp (WE W) t) := by
  refine ⟨fun pins s σ H Q I h => ?_⟩
  obtain ⟨f, c', hs, hf, ht⟩ := h
  refine wpAny_Call_Name_kw (thn ((pe_var (pos := p) hN hv hd hcd).run pins s σ H (fun v H1 => v = .ref f ∧ H1 = H) I ⟨.ref f, hs, rfl, rfl⟩) fun u s1 ⟨v, H1, I1, r1, q1⟩ => ?_)
  obtain ⟨ev, eH⟩ := q1
  subst ev
  rw [eH] at I1
  obtain rfl : u = Value.ref f := r1
  refine PySem.W.callWith_F (first := []) (fnAt_of I1 hf) (thn (ha.run pos pins s1 σ H _ I1 ht) fun us s2 ⟨vs, H2, I2, r, h1, h2, q⟩ => ⟨fnAt_of I2 h1, ?_⟩) he hpl
  show wpAny _ _ (call (.ref f) us) _ _ _
  have cs : CellsAt (mk cl c').cl fr ws s2.heap H2 := by rw [hcl c']; exact CellsAt.late C hex I2
  refine wpAny_call (codeAny_mono ((Fn f c').run X.A X.stack s2 H2 us vs ws Q (WE W σ) (hr.mono hk) I2.env0 h1 h2 cs r q) fun r s' hq => ?_)
  match r, hq with
  | .error er, hq => exact L2N.passAt tk σ pins H2 s2 er s' I2 hq
  | .ok (.ret z), hq => exact I2.after hq
  | .ok .next, hq => exact False.elim hq
  | .ok .brk, hq => exact False.elim hq
  | .ok .cont, hq => exact False.elim hq
end IC
namespace IC
open PySem L2 TL PyProof.Rows
/-- o.m(k = v, ..) -/
def tMethK0 (C : Addr) (m : Str) (j : Nat) (sp : Sp) (gV : List V → List V → List V) (E : L2.St → XK) (ta : TE) (tk : TA) : TE := fun σ H Q => ta σ H fun x H1 => ∃ a dx fs, x = .ref a ∧ H1 a = some (.ins C dx fs) ∧ fs.lookup m = none ∧
  tk σ H1 fun zs H3 => zs.length = j ∧ sp (gV [x] zs) H3 Q (E σ)
theorem pe_mdXK0 {X : Cx} {k j : Nat} {C : Addr} {m : Str} {ks ps : List Str} {gV : List V → List V → List V} {sp : Sp} {o : Expr} {kws : List Keyword} {pos apos : Pos} {ta : TE} {u : TA} {pl : Sem Bool} {W : WX}
    (D : KDf X.prog X.w X.K X.mg X.base (L2.CX X.prog X.w) k C m 0 ks gV ps sp) (c : Cls X.K C) (tk : Takes X W) (hr : Room j X.A) (hk : k ≤ j) (he : PE X o ta) (hw : PK X kws u)
    (hall : (backToKw pos (keywordEach kws X.env)).all (·.1.isSome) = true := by rfl) (hks : (backToKw pos (keywordEach kws X.env)).filterMap (·.1) = ks := by rfl)
    (hpl : ((backTo pos (starEach [] X.env)).any (·.1) || (backToKw pos (keywordEach kws X.env)).any (·.1.isNone)) = false := by rfl)
    (ht : eval (.Call (.Attribute o m apos) [] kws pos) X.env = (do
      let ov ← eval o X.env; standAt apos.atName
      let (f, first) ← holding [ov] (getMethod ov m pl); callWith pos f first (backTo pos (starEach [] X.env)) (backToKw pos (keywordEach kws X.env))) := by rfl) :
    PE X (.Call (.Attribute o m apos) [] kws pos) (tMethK0 C m ks.length sp gV (WE W) ta u) := by
  obtain ⟨f, fd, g, F, hm, hb⟩ := D.ex
  refine ⟨fun pins s σ H Q I h => PySem.W.methodCall_KW (pl := pl) (thn (he.run pins s σ H _ I h) fun v s1 ⟨x, H1, I1, rx, a, dx, fs, ex, ea, l, q⟩ => ?_) ht⟩
  subst ex
  obtain rfl : v = Value.ref a := rx
  refine getmeth_ok I1 ea c hm l (PySem.W.callWith_KW0 (first := [.ref a]) (h₀ := X.base) I1.ok.mod.kin hm.kp hall ?_ hpl)
  refine thn (hw.run pos pins s1 σ H1 _ I1 q) fun ws s3 ⟨zs, H3, I3, rz, l2, q3⟩ => ⟨I3.kIn, ?_⟩
  rw [hks, List.append_nil]
  have r1 : Vals [V.ref a] [Value.ref a] := .cons rfl .nil
  refine wpAny_call (codeAny_mono (F.run X.A X.stack s3 H3 ⟨[Value.ref a], ks.zip ws⟩ (g [Value.ref a] ws) (gV [V.ref a] zs) Q (WE W σ) (hr.mono hk) I3.env0 (hb.to s3 _ ws I3.kIn rfl (by rw [← rz.length]; exact l2)) (hb.rel r1 rz) q3) fun r s' hq => ?_)
  match r, hq with
  | .error er, hq => exact passAt tk σ pins H3 s3 er s' I3 hq
  | .ok (.ret z), hq => exact I3.after hq
  | .ok .next, hq => exact False.elim hq
  | .ok .brk, hq => exact False.elim hq
  | .ok .cont, hq => exact False.elim hq
/-! ### rules that name the frame's K, told with the plain one -/
theorem pe_fldK {X : Cx} {K : PySem.W.Frag} {e : Expr} {ta : TE} {f : Str} {pos : Pos} (hK : X.K = K) (he : PE X e ta) (hb : attributeBase e f X.env (eval e X.env) = eval e X.env := by rfl) : PE X (.Attribute e f pos) (tFld K ta f) := by
  rw [← hK]
  exact pe_fld he hb
theorem ps_fldK {X : Cx} {K : PySem.W.Frag} {o value : Expr} {ta tv : TE} {f : Str} {pos pos' : Pos} (hK : X.K = K) (ha : PE X o ta) (hv : PE X value tv) (hs : swapsWith value (some (.Attribute o f pos')) pos.line X.env = pure false := by rfl) : PS X (.Assign [.Attribute o f pos'] value pos) (sFld K ta tv f) := by
  rw [← hK]
  exact ps_fld ha hv hs
end IC
namespace IC
open PySem L2 L2H TL PyProof.Rows
/-! ### raise C() from None, C an own error without arguments, while an exception is handled -/
theorem pmk5_oe0H {X : Cx} {x : Str} {p pos : Pos} {C fI : Addr} {k : Nat} {fd : FuncData} {sp : Sp} (T : OexC X.K C) (iC : PySem.W.findIn X.K (.ref C) "__init__" = some (some (.ref fI))) (tI : PySem.W.typeIn X.K (.ref fI) = some (.type "function"))
    (Fn : FnH X.prog X.w X.K X.mg X.base CX0 k fI fd ["self"] sp) (hr : RoomH (k + 1) X.A) (hc : HotC X) (hb : Binds X.K fd ["self"] []) (hg : Gl X x) (hm : X.mg x = some (.ref C)) (hdb : (x == ("__debug__" : Str)) = false := by decide) : PMk5 X (.Call (.Name x p) [] [] pos) (tMk0 C sp) := by
  intro pins s σ H Q I h
  obtain ⟨nm, q, N, bs, bm, sn, sub, ab, col, dd, k0, k1, k2, k3, k5, hC, hbm⟩ := T.cls
  obtain ⟨pn, hot, hpn⟩ := hc
  refine wpAny_Call_Name_kw (ld_glob I hg hm (PySem.W.callWith_K0 I.kIn T.kC ?_) hdb)
  obtain ⟨hp, g, dr, tk, os⟩ := s
  obtain ⟨e, he⟩ : ∃ e, e = hp.objs.size + 1 := ⟨_, rfl⟩
  have le : hp.objs.size ≤ e := by rw [he]; exact Nat.le_succ _
  have ne : H e = none := I.hok.fresh le
  have up : ∀ b o, hp.get? b = some o → ((hp.push (PySem.W.kdv_tup [])).push (PySem.HandSPX.excO C hp.objs.size)).get? b = some o := fun b o z => Heap.get?_push_of_some _ (Heap.get?_push_of_some _ z)
  have at_ : ((hp.push (PySem.W.kdv_tup [])).push (PySem.HandSPX.excO C hp.objs.size)).get? e = some (PySem.HandSPX.excO C hp.objs.size) := by
    rw [he]
    heap_get
  have J : Inv X pins σ (upd H e (exo e C none)) ⟨(hp.push (PySem.W.kdv_tup [])).push (PySem.HandSPX.excO C hp.objs.size), g, dr, tk, os⟩ := I.laid (t' := tk) up le (exo_ok at_)
  have P1 := J.pin pn (List.mem_append_left _ hpn)
  have hpin : PinOk X.stack (upd H e (exo e C none)) ⟨(hp.push (PySem.W.kdv_tup [])).push (PySem.HandSPX.excO C hp.objs.size), g, dr, tk, os⟩ pn :=
    ⟨P1.1, P1.2.1, fun z => (List.mem_cons.mp (J.stkSub pn.1 z)).elim P1.2.2.1 P1.2.2.2.1, P1.2.2.2.2⟩
  have b2 := hb _ [Value.ref e] J.kIn rfl
  rw [List.append_nil] at b2
  have go := Fn.run _ X.stack _ _ ⟨[Value.ref e], []⟩ [Value.ref e] [V.ref e] _ E0 pn (hr.make C [] []) ⟨hot.1, hot.2⟩ hpin (J.env0.make C [] []) b2 (.cons (show RelV (V.ref e) (Value.ref e) from rfl) .nil) (h e ne)
  subst he
  refine wpAny_call (PySem.HandSPX.call_own PySem.F.excBase_ValueError (fun Y => PySem.HandSPX.refsVE_contains Y bm hbm) (I.kIn _ _ hC) (PySem.W.looks_findIn I.kIn iC) (fun self => PySem.W.bind_fn I.kIn self tI) (Nat.zero_le _) (codeAny_mono go fun r s' z => ?_))
  match r, z with
  | .error er, z => exact False.elim z
  | .ok .next, z => exact False.elim z
  | .ok .brk, z => exact False.elim z
  | .ok .cont, z => exact False.elim z
  | .ok (.ret u), z =>
    obtain ⟨v, H2, o2, b2, u2, ok2, rv, ev, d, fs, ea, ed, hd, q2⟩ := z
    subst ev
    obtain ⟨h2, g2, d2, t2, os2⟩ := s'
    obtain ⟨t0, G, J2, kG, ge, hoe, na⟩ := mk_end0 (d2 := d2) (t2 := t2) I le up u2 ok2 o2 b2 ea ed hd
    refine ⟨rv, ⟨hp.objs.size + 1, _, _, ⟨G, g2, d2, t2, os2⟩, _, .ref C, some d, rfl, J2, kG, ge, hoe, ⟨rfl, rfl, fun vs hv => (by cases hv; rfl)⟩, rfl, rfl, na, rfl, b2, raises_own T.exC T.tyC, q2⟩, fun a oe vs ea2 hg2 hd2 => ?_⟩
    cases ea2
    have hg3 : h2.get? (hp.objs.size + 1) = some oe := hg2
    rw [hoe] at hg3
    cases hg3
    cases hd2
    show (4 : Nat) < 6
    decide
structure EDh0 (P : Program) (w : World) (K : PySem.W.Frag) (mg : Str → Option Value) (base : Heap) (k : Nat) (x : Str) (C : Addr) (fs : List (Str × V)) : Prop where
  ex : ∃ (fI : Addr) (fd : FuncData), ErrC K mg x C fI ∧ FnH P w K mg base CX0 k fI fd ["self"] (spErr0 C fs) ∧ Binds K fd ["self"] []
theorem pmk5_ed0 {X : Cx} {k j : Nat} {x : Str} {C : Addr} {fs : List (Str × V)} {p pos : Pos} (D : EDh0 X.prog X.w X.K X.mg X.base k x C fs) (hc : HotC X) (hr : RoomH j X.A) (hk : k + 1 ≤ j) (hg : Gl X x) (hdb : (x == ("__debug__" : Str)) = false := by decide) :
    PMk5 X (.Call (.Name x p) [] [] pos) (tMk0 C (spErr0 C fs)) := by
  obtain ⟨fI, fd, T, F, hb⟩ := D.ex
  exact pmk5_oe0H T.ox T.iC T.tI F ⟨by have := hr.dp; omega, by have := hr.un; omega⟩ hc hb hg T.gC hdb
section
variable {P : Program} {w : World} {K : PySem.W.Frag} {mg : Str → Option Value} {base : Heap}
theorem ok_RefusedH {f C : Addr} {fd : FuncData} (F : Fun K "__init__" "Refused.__init__" s_Refused___init__ f fd) (O : OexC K C) (n2 : PySem.W.findIn K (.ref C) "word" = some none) : FnH P w K mg base CX0 1 f fd ["self"] (spErr0 C fsRf) := by
  refine IC.Fun.okH F sc_Refused___init__ (fun vs H Q E h => ?_) (fun cdv A outer s H vs Q E p hr hc h => ?_)
  · obtain ⟨a, rfl, _⟩ := h
    rfl
  · obtain ⟨a, rfl, ea, k⟩ := h
    refine ⟨_, (pss_one (ps_ost (pv 0) pe_str)), ?_⟩
    refine ⟨_, rfl, a, C, rfl, O, n2, .inl ⟨ea, fun d nd ne => ?_⟩⟩
    exact k d _ nd ne upd_same (by rw [upd_ne ne, upd_same]) (fun b h1 h2 => by rw [upd_ne h1, upd_ne h2])
end
end IC
namespace IC
open PySem L2 TL
/-! ### the shape of a database: its blocks' sorts, how many levels each entry has -/
abbrev Shp := List So × List Nat
def SG.shp (S : SG) : Shp := (S.sorts, (S.top :: S.sus).map fun o => (eT o).length)
def popH : Shp → Shp
  | (.plain :: s, l) => (s, l)
  | (.joined :: s, l) => (s, l)
  | (.level :: s, n :: l) => (s, (n - 1) :: l)
  | (.base :: s, _ :: l) => (s, l)
  | (.outside :: s, _ :: l) => (s, l)
  | z => z
def popN : Nat → Shp → Shp
  | 0, z => z
  | k + 1, z => popN k (popH z)
theorem inV_keys (z : Str) (ks : List Str) : inV (.str z) (ks.map V.str) = decide (z ∈ ks) := by
  unfold inV
  induction ks with
  | nil => rfl
  | cons y ks ih =>
    rw [List.map_cons, List.any_cons, ih]
    have e : eqV (.str y) (.str z) = decide (z = y) := by
      show (y == z) = decide (z = y)
      rw [Bool.eq_iff_iff, beq_iff_eq, decide_eq_true_iff]
      exact eq_comm
    rw [e, Bool.eq_iff_iff, Bool.or_eq_true, decide_eq_true_iff, decide_eq_true_iff, decide_eq_true_iff, List.mem_cons]
theorem flat_keys (ks : List Str) : (ks.map V.str).all flatV = true := by
  rw [List.all_eq_true]
  intro x hx
  rcases List.mem_map.mp hx with ⟨y, _, rfl⟩
  rfl
theorem DbG.flFr {c : Cs} {CW : Addr} {H : Hp} {F : Addr → Prop} {S : SG} (h : DbG c CW H F S) (fl : Int) : Fr F F H (upd H S.d (.ins c.D S.p.dx (dbf (vT S.top) fl S.p.b S.p.m S.p.h S.p.k))) ∧ Wst H (upd H S.d (.ins c.D S.p.dx (dbf (vT S.top) fl S.p.b S.p.m S.p.h S.p.k))) :=
  ⟨Fr.at_ h.db.fd, fun b o e q => by rw [upd_ne (ne_kin e h.db.hd (by rw [q]; show 14 ≠ 16; decide))]; exact e⟩
section
variable {c : Cs} {CW : Addr} {H H' : Hp} {F F' : Addr → Prop} {S S' : SG} {n m : Nat}
theorem EntR.shp {k : Ek} (er : EntR S S' k) : popH S'.shp = S.shp := by
  unfold SG.shp
  cases k with
  | noth =>
    obtain ⟨e1, ⟨e2, e3, e4⟩ | ⟨e2, e3, e4⟩⟩ := er
    · rw [e1, e3, e4, e2]
      rfl
    · rw [e1, e3, e4]
      rfl
  | dooms =>
    obtain ⟨e1, e2, e3⟩ := er
    rw [e1, e2, e3]
    rfl
  | fresh =>
    obtain ⟨t, q, e1, e2, e3⟩ := er
    rw [e1, e2, e3]
    rfl
  | inner =>
    obtain ⟨T0, e0, e1, e2, e3⟩ := er
    rw [e1, e2, e3, e0]
    rfl
  | miss => exact er.elim
  | pres => exact er.elim
  | doom w => exact er.elim
theorem len_doomTop (w : Str) (e : En) : (doomTop w e).length = e.length := by cases e <;> rfl
theorem LvR.shp {err : Option Str} {goes : Bool} {r : Str} {ks us : List Wr} (lr : LvR S S' err goes r ks us) : S'.shp = popH S.shp := by
  unfold SG.shp
  unfold LvR at lr
  cases es : S.sorts with
  | nil => rw [es] at lr; exact lr.elim
  | cons o s =>
    rw [es] at lr
    cases o with
    | plain =>
      obtain ⟨e0, e1, e2, e3, _⟩ := lr
      rw [e0, e2, e3, e1]
      rfl
    | outside =>
      obtain ⟨e0, e1, ⟨T0, e2, e3⟩, _⟩ := lr
      rw [e0, e1, e2, e3]
      rfl
    | joined =>
      obtain ⟨e0, e1, ⟨T0, e2, e3⟩, _⟩ := lr
      rw [e0, e1, e2, e3]
      have : (eT (some (dmT T0 err))).length = (eT (some T0)).length := by
        cases err with
        | none => rfl
        | some w => exact len_doomTop w T0.e
      show (s, (eT (some (dmT T0 err))).length :: _) = (s, (eT (some T0)).length :: _)
      rw [this]
    | level =>
      obtain ⟨T0, l, l2, e, e1, e2, e3, e4, q⟩ := lr
      have : (eT S'.top).length = (eT S.top).length - 1 := by
        rw [e1]
        show _ = T0.e.length - 1
        rw [e2]
        rcases q with ⟨_, e5, _⟩ | ⟨_, _, e5, _⟩
        · rw [e5]; rfl
        · rw [e5]; rfl
      rw [e3, e4, List.map_cons, this]
      rfl
    | base =>
      obtain ⟨T0, l, o, e1, e2, e3, e4, e5, _⟩ := lr
      rw [e5, e4, e3]
      rfl
/-- a database in which nothing is written -/
structure E13 (c : Cs) (CW : Addr) (H : Hp) (F : Addr → Prop) (S : SG) (n : Nat) : Prop where
  D : Dk c CW H F S [] n
  he : S.held = []
theorem E13.own (E : E13 c CW H F S n) {T : Tr} (hT : T ∈ S.ts) : T.e.own = [] := by
  cases e : T.e.own with
  | nil => rfl
  | cons x l =>
    obtain ⟨z, hz, _⟩ := E.D.db.all T hT x (by rw [e]; exact List.mem_cons_self)
    rw [E.he] at hz
    cases hz
theorem E13.mv (E : E13 c CW H F S n) (k : ∀ x o, F x → H x = some o → H' x = some o) : E13 c CW H' F S n := ⟨E.D.mv k, E.he⟩
theorem E13.same (E : E13 c CW H F S n) (s : Same H H') : E13 c CW H' F S n := ⟨E.D.same s, E.he⟩
theorem E13.up (E : E13 c CW H F S n) (e : n ≤ m) : E13 c CW H F S m := ⟨E.D.up e, E.he⟩
theorem E13.g (E : E13 c CW H F S n) (e : n ≤ m) : SzG S m := (E.D.sz.up e).g
theorem E13.ent {k : Ek} (E : E13 c CW H F S n) (fr : Fr F F' H H') (db : DbG c CW H' F' S') (ws : Wst H H') (em : S'.made = S.made) (ek : S'.kept = S.kept) (eh : S'.held = S.held) (eb : S'.bl.length = S.bl.length + 1) (er : EntR S S' k) : E13 c CW H' (tgt F' H') S' (n + 1) :=
  ⟨E.D.ent fr db ws em ek eh eb er, eh.trans E.he⟩
theorem E13.leave {err : Option Str} {goes : Bool} {r : Str} {ks us : List Wr} (E : E13 c CW H F S n) (db : DbG c CW H' F S') (le : LvE S S' ks) (lr : LvR S S' err goes r ks us) (ft : FtR CW H H' F S.made ks us) : E13 c CW H' (tgt F H') S' n :=
  ⟨E.D.leave db le lr ft, List.eq_nil_of_length_eq_zero (by have := le.held; rw [E.he] at this; exact Nat.le_zero.mp this)⟩
theorem E13.setFl (E : E13 c CW H F S n) (fl : Int) : E13 c CW (upd H S.d (.ins c.D S.p.dx (dbf (vT S.top) fl S.p.b S.p.m S.p.h S.p.k))) F (S.setFl fl) n :=
  ⟨⟨E.D.db.setFl fl, E.D.ft.st (E.D.db.flFr fl).2 fun _ q => q, ⟨E.D.sz.m, E.D.sz.b, E.D.sz.h, E.D.sz.l, E.D.sz.e⟩, fun x f => by
    by_cases q : x = S.d
    · rw [q, upd_same]
      exact nofun
    · rw [upd_ne q]
      exact E.D.al x f⟩, E.he⟩
theorem E13.mine (E : E13 c CW H F S n) (z : Str) : S.mine z = false := by
  cases e : S.mine z with
  | false => rfl
  | true =>
    obtain ⟨T, e1, n1⟩ := SG.mine_iff.mp e
    rw [E.own (SG.mem_ts.mpr (.inl e1))] at n1
    exact absurd rfl n1
theorem E13.wait (E : E13 c CW H F S n) (z : Str) : S.wait z = false := by
  cases e : S.wait z with
  | false => rfl
  | true =>
    obtain ⟨T, e1, n1⟩ := SG.wait_iff.mp e
    rw [E.own (SG.mem_ts.mpr (.inr e1))] at n1
    exact absurd rfl n1
/-- whether a transaction is present is a matter of the shape -/
theorem E13.open (E : E13 c CW H F S n) : S.top.isSome = decide (0 < (S.shp.2.headD 0)) := by
  show S.top.isSome = decide (0 < (eT S.top).length)
  cases e : S.top with
  | none => rfl
  | some T =>
    have := (E.D.db.tr T (SG.topMem e)).ne
    show true = decide (0 < T.e.length)
    cases q : T.e with
    | nil => exact absurd q this
    | cons l e => rfl
theorem E13.depth (E : E13 c CW H F S n) : S.bl.length = S.shp.1.length := E.D.db.sorts_len.symm
theorem E13.sorts (E : E13 c CW H F S n) (h : 0 < S.bl.length) : S.sorts ≠ [] := fun e => by
  have := E.D.db.sorts_len
  rw [e, List.length_nil] at this
  omega
end
/-- no word but 'wrong' doomed a level -/
def WrO (S : SG) : Prop := ∀ T, (S.top = some T ∨ some T ∈ S.sus) → ∀ l ∈ T.e, l.why = none ∨ l.why = some "wrong"
section
variable {S S' : SG}
theorem Calm.wrO (h : Calm S) : WrO S := fun T hT l hl => .inl (h T (SG.mem_ts.mpr hT) l hl)
theorem WrO.top (h : WrO S) : (eT S.top).why = none ∨ (eT S.top).why = some "wrong" := by
  cases e : S.top with
  | none => exact .inl rfl
  | some T =>
    show T.e.why = none ∨ T.e.why = _
    cases q : T.e with
    | nil => exact .inl rfl
    | cons l ls => exact h T (.inl e) l (by rw [q]; exact List.mem_cons_self)
theorem WrO.of (h : WrO S) (q : ∀ T, (S'.top = some T ∨ some T ∈ S'.sus) → (S.top = some T ∨ some T ∈ S.sus) ∨ ∀ l ∈ T.e, l.why = none ∨ l.why = some "wrong") : WrO S' := fun T hT l hl => (q T hT).elim (fun z => h T z l hl) fun z => z l hl
theorem WrO.ent {k : Ek} (h : WrO S) (er : EntR S S' k) : WrO S' := by
  refine h.of fun T hT => ?_
  cases k with
  | noth =>
    obtain ⟨e1, ⟨e2, e3, _⟩ | ⟨e2, e3, _⟩⟩ := er
    · rw [e1, e3] at hT
      exact .inl (.inr (hT.elim (fun q => by cases q) id))
    · rw [e1, e3] at hT
      rcases hT with q | q
      · cases q
      · exact .inl (by simpa [eq_comm] using q)
  | dooms =>
    obtain ⟨e1, e2, _⟩ := er
    rw [e1, e2] at hT
    exact .inl hT
  | fresh =>
    obtain ⟨t, q, e1, e2, _⟩ := er
    rw [e1, e2] at hT
    rcases hT with q | q
    · cases q
      exact .inr (by simp)
    · exact .inl (by simpa [eq_comm] using q)
  | inner =>
    obtain ⟨T0, e0, e1, e2, _⟩ := er
    rw [e1, e2] at hT
    rcases hT with q | q
    · cases q
      refine .inr fun l hl => ?_
      rcases List.mem_cons.mp hl with rfl | hl
      · exact .inl rfl
      · exact h T0 (.inl e0) l hl
    · exact .inl (.inr q)
  | miss => exact er.elim
  | pres => exact er.elim
  | doom w => exact er.elim
theorem WrO.leave {goes : Bool} {r : Str} {ks us : List Wr} (h : WrO S) (lr : LvR S S' (some "wrong") goes r ks us) : WrO S' := by
  unfold LvR at lr
  refine h.of fun T hT => ?_
  cases es : S.sorts with
  | nil => rw [es] at lr; exact lr.elim
  | cons o s =>
    rw [es] at lr
    cases o with
    | plain =>
      obtain ⟨e0, e1, e2, e3, _⟩ := lr
      rw [e2, e3] at hT
      exact .inl (.inr (hT.elim (fun q => by cases q) id))
    | outside =>
      obtain ⟨e0, e1, ⟨T0, e2, e3⟩, _⟩ := lr
      rw [e3] at hT
      refine .inl (.inr ?_)
      rw [e2]
      rcases hT with q | q
      · rw [Option.some.inj q]
        exact List.mem_cons_self
      · exact List.mem_cons_of_mem _ q
    | joined =>
      obtain ⟨e0, e1, ⟨T0, e2, e3⟩, _⟩ := lr
      rw [e3, e1] at hT
      rcases hT with q | q
      · cases q
        refine .inr fun l hl => ?_
        have hl : l ∈ doomTop "wrong" T0.e := hl
        have h0 := h T0 (.inl e2)
        cases e : T0.e with
        | nil => rw [e] at hl; cases hl
        | cons l0 ls =>
          rw [e] at hl h0
          rcases List.mem_cons.mp hl with q | q
          · rw [q]
            cases e4 : l0.why with
            | none => exact .inr rfl
            | some u => exact h0 l0 List.mem_cons_self
          · exact h0 l (List.mem_cons_of_mem _ q)
      · exact .inl (.inr q)
    | level =>
      obtain ⟨T0, l0, l2, e, e1, e2, e3, e4, q⟩ := lr
      have h0 := h T0 (.inl e1)
      rw [e2] at h0
      rw [e4] at hT
      rcases q with ⟨_, e5, _⟩ | ⟨_, _, e5, _⟩
      · rw [e5] at hT
        rcases hT with q | q
        · cases q
          exact .inr fun l hl => h0 l (List.mem_cons_of_mem _ hl)
        · exact .inl (.inr q)
      · rw [e5] at hT
        rcases hT with q | q
        · cases q
          refine .inr fun l hl => ?_
          rcases List.mem_cons.mp hl with rfl | hl
          · exact h0 l2 (List.mem_cons_of_mem _ List.mem_cons_self)
          · exact h0 l (List.mem_cons_of_mem _ (List.mem_cons_of_mem _ hl))
        · exact .inl (.inr q)
    | base =>
      obtain ⟨T0, l, o, e1, e2, e3, e4, e5, _⟩ := lr
      rw [e4] at hT
      refine .inl (.inr ?_)
      rw [e3]
      rcases hT with q | q
      · rw [q]
        exact List.mem_cons_self
      · exact List.mem_cons_of_mem _ q
end
/-! ### all above the floor is left -/
abbrev FL (F : Addr → Prop) (p x : Addr) : Prop := F x ∨ x = p
def spAbove13 (c : Cs) (CW : Addr) : Sp := fun vs H Q _ => ∃ (S : SG) (F : Addr → Prop) (n b k : Nat) (w : Str), vs = [.ref S.d, .int b, .str w] ∧ E13 c CW H F S n ∧ n ≤ 900 ∧ S.bl.length = b + k ∧
  ∀ (H' : Hp) (F' : Addr → Prop) (S' : SG), Chg F F' H H' → E13 c CW H' F' S' n → S'.d = S.d → S'.p = S.p → S'.bl.length = b → S'.shp = popN k S.shp → Q .non H'
section
variable {P : Program} {w : World} {K : PySem.W.Frag} {mg : Str → Option Value} {base : Heap} {c : Cs} {CW : Addr}
theorem ok_above13 {f : Addr} {fd : FuncData} (F : Fun K "_leave_above" "Database._leave_above" s_Database__leave_above f fd) (T : Bn mg) (B : DbTxt K mg c) (M_end_block : MDfH P w K mg base 3 c.D "_end_block" ["self", "error", "commits"] (spEndBG c CW)) : L2H.FnH P w K mg base CX0 4 f fd ["self", "floor", "word"] (spAbove13 c CW) := by
  refine IC.Fun.okH F sc_Database__leave_above (fun vs H Q E h => ?_) (fun cdv A outer s H vs Q E pz hr hc h => ?_)
  · obtain ⟨S, F, n, b, k, w, rfl, _⟩ := h
    rfl
  · obtain ⟨S, F, n, b, k, w, rfl, hd, hn, hb, kq⟩ := h
    refine ⟨_, (pss_one (ps_while PassesOwn.never (pt_cmpR op_gt (pe_callB call_len_seq (by rfl) T.len PySem.boot_len (pa_cons (pe_fld (pv 0) rfl) pa_nil)) (pv 1) (nomark _))
  (pss_one (ps_expr (pe_mdH M_end_block B.cD hc hr (by decide) (pv 0) (pa_cons (pv 2) (pa_cons pe_bl pa_nil))))))), ?_⟩
    refine ⟨fun j σ' H' => ∃ (F1 : Addr → Prop) (S1 : SG), σ' = [some (.ref S.d), some (.int b), some (.str w)] ∧ Chg F F1 H H' ∧ E13 c CW H' F1 S1 n ∧ S1.d = S.d ∧ S1.p = S.p ∧ S1.bl.length = b + j ∧ popN j S1.shp = popN k S.shp, ⟨k, F, S, rfl, Chg.refl _ _, hd, rfl, rfl, hb, rfl⟩, ?_⟩
    rintro j σ' H' ⟨F1, S1, rfl, cg, hd1, e1, e2, hb1, ps⟩
    have h1 := hd1.D.db.db.hd
    have hb2 := hd1.D.db.db.hb
    rw [e1] at h1
    refine ⟨_, rfl, S.d, c.D, S1.p.dx, _, _, rfl, h1, B.cD, B.nB, rfl, S1.p.b, _, rfl, .inl (SqL.of hb2), ?_⟩
    rw [List.length_map]
    refine ⟨_, rfl, _, _, rfl, rfl, _, rfl, ?_⟩
    refine ite2 (fun c1 => ?_) (fun c1 => ?_)
    · have c1 : (b : Int) < (S1.bl.length : Int) := of_decide_eq_true c1
      obtain ⟨j4, rfl⟩ : ∃ j4, j = j4 + 1 := ⟨j - 1, by omega⟩
      refine ⟨fun σ2 H2 => ∃ (F1 : Addr → Prop) (S1 : SG), σ2 = [some (.ref S.d), some (.int b), some (.str w)] ∧ Chg F F1 H H2 ∧ E13 c CW H2 F1 S1 n ∧ S1.d = S.d ∧ S1.p = S.p ∧ S1.bl.length = b + j4 ∧ popN j4 S1.shp = popN k S.shp, fun σ2 H2 h => ⟨j4, Nat.lt_succ_self _, h⟩, ?_⟩
      refine ⟨_, rfl, S.d, S1.p.dx, _, rfl, h1, rfl, _, rfl, S1, F1, some w, true, ?_, hd1.D.db, hd1.g hn, hd1.sorts (by omega), fun H2 S2 r ks us fr hd2 le lr ft => ?_⟩
      · rw [e1]
        rfl
      · have := le.bl
        exact ⟨_, S2, rfl, cg.trans fr.chg.tight, hd1.leave hd2 le lr ft, le.d.trans e1, le.p.trans e2, by omega, by rw [lr.shp]; exact ps⟩
    · have c1 : ¬ (b : Int) < (S1.bl.length : Int) := fun h => c1 (decide_eq_true h)
      obtain rfl : j = 0 := by omega
      exact kq H' F1 S1 cg hd1 e1 e2 hb1 ps
end
/-- a statement that raises nothing -/
theorem ps_nox {X : Cx} {st : Stmt} {t : TS} (h : PS X.nox st t) : PS X st t := by
  refine ⟨fun pins s σ H D I hw => ?_⟩
  exact wpAny_mono (h.run pins s σ H D (I.wish fun _ _ => False) hw) (fun _ _ q => q.unwish) (fun _ _ z => z.elim)
theorem takes0N {X : Cx} : L2N.Takes X (fun _ _ _ _ => False) := fun u s x => by
  obtain ⟨_, _, _, _, _, _, _, _, _, _, _, _, _, _, _, _, w⟩ := x
  exact w.elim
end IC
namespace IC
open PySem L2 TL
/-- the classes that the law names -/
structure Cl13 (K : PySem.W.Frag) (mg : Str → Option Value) (c : Cs) (CI EN EF : Addr) : Prop where
  gI : mg "InnercommitsError" = some (.ref CI)
  gN : mg "NoBlock" = some (.ref EN)
  gF : mg "Failed" = some (.ref EF)
  gM : mg "Missing" = some (.ref c.M)
  gP : mg "Present" = some (.ref c.P)
  gO : mg "Doomed" = some (.ref c.O)
  xF : XfC K EF
  xM : XfC K c.M
  xP : XfC K c.P
  xO : XfC K c.O
  nFw : PySem.W.findIn K (.ref EF) "word" = some none
  nMw : PySem.W.findIn K (.ref c.M) "word" = some none
  nMm : PySem.W.findIn K (.ref c.M) "mode" = some none
  nPw : PySem.W.findIn K (.ref c.P) "word" = some none
  nPm : PySem.W.findIn K (.ref c.P) "mode" = some none
  nOw : PySem.W.findIn K (.ref c.O) "word" = some none
  nOf : PySem.W.findIn K (.ref c.O) "first" = some none
  iM : PySem.W.exmOne K (.ref c.M) (.ref CI) = some true
  iP : PySem.W.exmOne K (.ref c.P) (.ref CI) = some true
  iO : PySem.W.exmOne K (.ref c.O) (.ref CI) = some true
  nn : PySem.W.exmOne K (.ref EN) (.ref EN) = some true
  ff : PySem.W.exmOne K (.ref EF) (.ref EF) = some true
  mf : PySem.W.exmOne K (.ref c.M) (.ref EF) = some false
  mm : PySem.W.exmOne K (.ref c.M) (.ref c.M) = some true
  pf : PySem.W.exmOne K (.ref c.P) (.ref EF) = some false
  pm : PySem.W.exmOne K (.ref c.P) (.ref c.M) = some false
  pp : PySem.W.exmOne K (.ref c.P) (.ref c.P) = some true
  of : PySem.W.exmOne K (.ref c.O) (.ref EF) = some false
  om : PySem.W.exmOne K (.ref c.O) (.ref c.M) = some false
  op : PySem.W.exmOne K (.ref c.O) (.ref c.P) = some false
  oo : PySem.W.exmOne K (.ref c.O) (.ref c.O) = some true
@[irreducible] def spEnter13 (c : Cs) (CW : Addr) : Sp := fun vs H Q _ => ∃ (S : SG) (F : Addr → Prop) (n : Nat) (z : Str), vs = [.ref S.d, .str z] ∧ z ∈ modesS ∧ E13 c CW H F S n ∧ n ≤ 900 ∧ (∀ H', Same H H' → Q (.bl false) H') ∧
  ∀ (H' : Hp) (F' : Addr → Prop) (S' : SG), Chg F F' H H' → E13 c CW H' F' S' (n + 1) → S'.d = S.d → S'.p = S.p → S'.bl.length = S.bl.length + 1 → popH S'.shp = S.shp → (Calm S → Calm S') → (WrO S → WrO S') → Q (.bl true) H'
@[irreducible] def spBare13 (c : Cs) (CW : Addr) : Sp := fun vs H Q _ => ∃ (S : SG) (F : Addr → Prop) (n : Nat), vs = [.ref S.d] ∧ E13 c CW H F S n ∧ n ≤ 900 ∧ S.p.fl = (S.bl.length : Int) ∧ Q (.bl true) H
section
variable {P : Program} {w : World} {K : PySem.W.Frag} {mg : Str → Option Value} {base : Heap} {c : Cs} {CW CI EB EN ER EF : Addr}
theorem ok_enter13 {f : Addr} {fd : FuncData} (F : Fun K "_law_enter" "_law_enter" s_law_enter f fd) (B : DbTxt K mg c) (Z : Cl13 K mg c CI EN EF) (M_enter : MDf P w K mg base (L2.CX P w) 4 c.D "enter" ["self", "mode"] [] (spEnterG c CW)) : FnOk P w K mg base CX0 5 f fd ["db", "mode"] (spEnter13 c CW) := by
  refine F.ok sc_law_enter (fun vs H Q E h => ?_) (fun cdv A outer s H vs Q E hr h => ?_)
  · unfold spEnter13 at h
    obtain ⟨S, F, n, z, rfl, _⟩ := h
    rfl
  · unfold spEnter13 at h
    obtain ⟨S, F, n, z, rfl, hz, hd, hn, k0, k1⟩ := h
    refine ⟨_, (pss_cons (ps_try_cl rfl rfl sc_law_enter.nd takes0 (fun W pn xe tk _ => (pss_one (ps_expr (pe_mdX M_enter B.cD tk hr (by decide) (pv 0) (pa_cons (pv 1) pa_nil)))))
  (.no ⟨rfl, by decide, .inl Z.gI⟩ (fun a oe cls d pn hz hf => (pss_one (ps_ret pe_bl)))
  .nil))
  (pss_one (ps_ret pe_bl))), ?_⟩
    refine ⟨_, rfl, S.d, S.p.dx, _, rfl, hd.D.db.db.hd, rfl, _, rfl, S, F, z, rfl, hz, hd.D.db, hd.g hn, ?_⟩
    cases kG S z with
    | miss => exact fun x H' s e => ⟨true, Z.iM, fun _ a ha => k0 _ s, nofun⟩
    | pres => exact fun x H' s e => ⟨true, Z.iP, fun _ a ha => k0 _ s, nofun⟩
    | doom u => exact fun x H' s e => ⟨true, Z.iO, fun _ a ha => k0 _ s, nofun⟩
    | noth => exact fun H1 F1 S1 fr hd1 ws e1 e2 e3 e4 e5 e6 er => k1 H1 _ S1 fr.chg.tight (hd.ent fr hd1 ws e3 e4 e5 e6 er) e1 e2 e6 er.shp (fun q => q.ent er) fun q => q.ent er
    | dooms => exact fun H1 F1 S1 fr hd1 ws e1 e2 e3 e4 e5 e6 er => k1 H1 _ S1 fr.chg.tight (hd.ent fr hd1 ws e3 e4 e5 e6 er) e1 e2 e6 er.shp (fun q => q.ent er) fun q => q.ent er
    | fresh => exact fun H1 F1 S1 fr hd1 ws e1 e2 e3 e4 e5 e6 er => k1 H1 _ S1 fr.chg.tight (hd.ent fr hd1 ws e3 e4 e5 e6 er) e1 e2 e6 er.shp (fun q => q.ent er) fun q => q.ent er
    | inner => exact fun H1 F1 S1 fr hd1 ws e1 e2 e3 e4 e5 e6 er => k1 H1 _ S1 fr.chg.tight (hd.ent fr hd1 ws e3 e4 e5 e6 er) e1 e2 e6 er.shp (fun q => q.ent er) fun q => q.ent er
theorem ok_bare13 {f : Addr} {fd : FuncData} (F : Fun K "_law_bare" "_law_bare" s_law_bare f fd) (B : DbTxt K mg c) (Z : Cl13 K mg c CI EN EF) (M_leave0 : MDf P w K mg base (L2.CX P w) 4 c.D "leave" ["self", "error", "commits"] [.non, .bl true] (spLeaveG K c CW EB EN ER)) : FnOk P w K mg base CX0 5 f fd ["db"] (spBare13 c CW) := by
  refine F.ok sc_law_bare (fun vs H Q E h => ?_) (fun cdv A outer s H vs Q E hr h => ?_)
  · unfold spBare13 at h
    obtain ⟨S, F, n, rfl, _⟩ := h
    rfl
  · unfold spBare13 at h
    obtain ⟨S, F, n, rfl, hd, hn, hf, k⟩ := h
    refine ⟨_, (pss_cons (ps_try_cl rfl rfl sc_law_bare.nd takes0 (fun W pn xe tk _ => (pss_one (ps_expr (pe_mdX0 M_leave0 B.cD tk hr (by decide) (pv 0)))))
  (.no ⟨rfl, by decide, .inl Z.gN⟩ (fun a oe cls d pn hz hf => (pss_one (ps_ret pe_bl)))
  (.no ⟨rfl, by decide, .inl Z.gO⟩ (fun a oe cls d pn hz hf => (pss_one (ps_ret pe_bl)))
  .nil)))
  (pss_one (ps_ret pe_bl))), ?_⟩
    refine ⟨_, rfl, S.d, S.p.dx, _, rfl, hd.D.db.db.hd, rfl, S, F, .non, true, rfl, hd.D.db, hd.g hn, .inl ⟨hf.symm, ?_⟩⟩
    exact ⟨true, Z.nn, fun _ a ha => k, nofun⟩
end
end IC
namespace IC
open PySem PySem.Spec PyProof.Rows L2 TL NdefX LamX
/-! ### the deed -/
abbrev s_law_call__law_deed : Stmt := (defBody s_law_call).getD 0 (.Pass ⟨0, 0, 0, 0⟩)
def deedF (cl : List (Str × Addr)) (c' : Addr) : NF := NF.of s_law_call__law_deed "_law_deed" "_law_call.<locals>._law_deed" cl c'
theorem sc_law_call__law_deed : NScope ["given", "notes", "ways", "count", "one", "turn"] ["given"] ["notes", "ways"] (C8.fnScope s_law_call__law_deed) := nscope_by (by decide +kernel)
/-- the ways of a call: the modes that are entered, how many blocks are left, the word that is raised -/
structure WayF (H : Hp) (F : Addr → Prop) (wy : Addr) (ms : List Str) (lv : Nat) (w : Str) : Prop where
  ex : ∃ ml, H wy = some (.tup [.ref ml, .int lv, .str w]) ∧ H ml = some (.lst (ms.map V.str)) ∧ ¬ F wy ∧ ¬ F ml
  md : ∀ z ∈ ms, z ∈ modesS
  le : ms.length ≤ 4
  lv : lv ≤ 4
theorem WayF.chg {H H' : Hp} {F F' : Addr → Prop} {wy : Addr} {ms : List Str} {lv : Nat} {w : Str} (h : WayF H F wy ms lv w) (cg : Chg F F' H H') : WayF H' F' wy ms lv w := by
  obtain ⟨⟨ml, e1, e2, n1, n2⟩, a, b, d⟩ := h
  exact ⟨⟨ml, (cg.off e1 n1).1, (cg.off e2 n2).1, (cg.off e1 n1).2, (cg.off e2 n2).2⟩, a, b, d⟩
theorem Chg.fl {F F1 : Addr → Prop} {H H1 : Hp} (cg : Chg F F1 H H1) (lc : Addr) : Chg (FL F lc) (FL F1 lc) H H1 := cg.sub (fun _ f => .inl f) fun _ g => g.elim .inl fun q => .inr (.inl (.inr q))
theorem Chg.lst {F : Addr → Prop} {H : Hp} {lc : Addr} {o : HO} : Chg (FL F lc) (FL F lc) H (upd H lc o) := ⟨fun x u e n => by rw [upd_ne fun q => n (.inr q)]; exact e, fun _ f => .inl f⟩
/-- what the deed notes -/
def Noted (xs : List V) (k : Nat) (xs1 : List V) : Prop := xs1 = xs ++ [.int k] ∨ (k = 0 ∧ xs1 = xs ++ [.int k, .bl true])
def spDeed13 (c : Cs) (CW EF : Addr) : List (Option V) → Sp := fun ws vs H Q E => ∃ (S : SG) (F : Addr → Prop) (n : Nat) (lc wy : Addr) (xs : List V) (ms : List Str) (lv : Nat) (w : Str), ws = [some (.ref lc), some (.ref wy)] ∧ vs = [.ref S.d] ∧ E13 c CW H F S n ∧ n ≤ 800 ∧ WrO S ∧ S.p.fl = (S.bl.length : Int) ∧
  H lc = some (.lst xs) ∧ ¬ F lc ∧ xs.length ≤ 100 ∧ WayF H (FL F lc) wy ms lv w ∧
  ∀ (H1 : Hp) (F1 : Addr → Prop) (S1 : SG) (k : Nat) (xs1 : List V), Chg (FL F lc) (FL F1 lc) H H1 → E13 c CW H1 F1 S1 (n + 4) → WrO S1 → ¬ F1 lc → S1.d = S.d → S1.p = S.p → S1.bl.length = S.bl.length + k → popN k S1.shp = S.shp → H1 lc = some (.lst xs1) → Noted xs k xs1 →
    (w = "" → Q (.str "told") H1) ∧ (w ≠ "" → ErrQ EF (fsB (.str w)) H1 E)
theorem LvR.err {S S' : SG} {w : Str} {goes : Bool} {r : Str} {ks us : List Wr} (h : LvR S S' (some w) goes r ks us) : r = "" := by
  unfold LvR at h
  cases es : S.sorts with
  | nil => rw [es] at h; exact h.elim
  | cons o s =>
    rw [es] at h
    cases o with
    | plain => exact h.2.2.2.2.1
    | outside => exact h.2.2.2.1
    | joined => exact h.2.2.2.1
    | level =>
      obtain ⟨T, l, l2, e, _, _, _, _, h | h⟩ := h
      · exact h.2.2.2.2
      · exact h.2.2.2.2.2
    | base =>
      obtain ⟨T, l, o, _, _, _, _, _, h | h | h⟩ := h
      · exact h.2.2.2
      · exact h.2.2.2.2.2
      · exact absurd h.1 nofun
theorem isw_of {z : Str} (h : (decide (1 ≤ z.length) && decide (z.length ≤ 8) && z.cps.toList.all (fun c => decide (97 ≤ c) && decide (c ≤ 122))) = true) : IsW z := by
  simp only [Bool.and_eq_true, decide_eq_true_eq, List.all_eq_true] at h
  exact ⟨h.1.1, h.1.2, h.2⟩
theorem isw_wrong : IsW ("wrong" : Str) := isw_of (by decide +kernel)
section
variable {P : Program} {w : World} {K : PySem.W.Frag} {mg : Str → Option Value} {base : Heap} {c : Cs} {CW EB EN ER EF : Addr}
theorem ok_deed13 (T : Bn mg) (B : DbTxt K mg c) (D_law_enter : Df P w K mg base 5 "_law_enter" ["db", "mode"] (spEnter13 c CW)) (D_law_bare : Df P w K mg base 5 "_law_bare" ["db"] (spBare13 c CW))
    (M_leave1N : MDf P w K mg base (L2N.CX P w) 4 c.D "leave" ["self", "error", "commits"] [.bl true] (spLeaveG K c CW EB EN ER)) (E_F : EDf P w K mg base 1 "Failed" EF "word" fsB) (kF : PySem.W.keepIn K (.ref EF) = true) (cl : List (Str × Addr)) (f c' : Addr) :
    NOk P w K mg base (L2N.CX P w) 6 f (deedF cl c') ["given"] ["notes", "ways"] (spDeed13 c CW EF) := by
  refine nok_of sc_law_call__law_deed (fun doc pm ctv us hl => match us, hl with | [_], _ => rfl) (fun ws vs H Q E h => ?_) (fun A outer s H vs ws Q E hr hf hc hw h => ?_)
  · obtain ⟨S, F, n, lc, wy, xs, ms, lv, w, _, rfl, _⟩ := h
    rfl
  · obtain ⟨S, F, n, lc, wy, xs, ms, lv, z, rfl, rfl, hd, hn, hwo, hfl, hl, nl, zl, wf, k⟩ := h
    have hu := hu_of hr
    refine ⟨_, (pss_cons (ps_set (i := 3) sc_law_call__law_deed.nd rfl (Or.inl rfl) pe_int)
  (pss_cons (ps_nox (ps_for PassesOwn.never rfl (pi_list (pe_ix ix_tup (pv 2) pe_int (fun _ _ => rfl))) (pg_name (i := 4) sc_law_call__law_deed.nd rfl (Or.inl rfl))
  (pss_one (ps_set (i := 3) sc_law_call__law_deed.nd rfl (Or.inl rfl) (pe_op op_add (pv 3) (pe_callTy call_int1 (by rfl) T.int (by decide +kernel) (pa_cons (pe_df D_law_enter hr (by decide) rfl (pa_cons (pv 0) (pa_cons (pv 4) pa_nil))) pa_nil)))))))
  (pss_cons (ps_nox (ps_for PassesOwn.never rfl (pi_range1 rfl T.range (pa_cons (pe_callB (call_min2 rfl) (by rfl) T.min PyProof.Rows.boot_min (pa_cons (pe_ix ix_tup (pv 2) pe_int (fun _ _ => rfl)) (pa_cons (pv 3) pa_nil))) pa_nil)) (pg_name (i := 5) sc_law_call__law_deed.nd rfl (Or.inl rfl))
  (pss_one (ps_expr (pe_mdXN M_leave1N B.cD takes0N hr (by decide) (pv 0) (pa_cons pe_str pa_nil))))))
  (pss_cons (ps_expr (pe_bm PySem.F.plainAttrs_list PySem.F.slot_list_append PySem.F.type_list_append mt_append (pv 1) (pa_cons (pe_op op_sub (pv 3) (pe_callB (call_min2 rfl) (by rfl) T.min PyProof.Rows.boot_min (pa_cons (pe_ix ix_tup (pv 2) pe_int (fun _ _ => rfl)) (pa_cons (pv 3) pa_nil)))) pa_nil)))
  (Evl.pss_cut (ps_if (pt_cmpR op_gt (pe_ix ix_tup (pv 2) pe_int (fun _ _ => rfl)) (pv 3) (nomark _))
  (pss_one (ps_expr (pe_bm PySem.F.plainAttrs_list PySem.F.slot_list_append PySem.F.type_list_append mt_append (pv 1) (pa_cons (pe_df D_law_bare hr (by decide) rfl (pa_cons (pv 0) pa_nil)) pa_nil))))
  pss_nil)
  (pss_cons (ps_if (pt_cmpR op_ne (pe_ix ix_tup (pv 2) pe_int (fun _ _ => rfl)) pe_str (nomark _))
  (pss_one (L2N.ps_raise rfl (L2N.takes_of rfl rfl rfl rfl) (pmk_edN E_F kF hr (by decide) rfl (pa_cons (pe_ix ix_tup (pv 2) pe_int (fun _ _ => rfl)) pa_nil))))
  pss_nil)
  (pss_one (ps_ret pe_str)))))))), ?_⟩
    obtain ⟨⟨ml, hwy, hml, nwy, nml⟩, hmd, hle, hlv⟩ := id wf
    refine ⟨_, rfl, ?_⟩
    refine ⟨wy, _, 0, _, rfl, rfl, SqT.of hwy, rfl, ml, rfl, ⟨_, SqL.of hml⟩, for_list (K := K) (a := ml) (xs := ms.map V.str) (fun i σ H' => ∃ (F1 : Addr → Prop) (S1 : SG) (j : Nat) (o4 : Option V), σ = [some (.ref S.d), some (.ref lc), some (.ref wy), some (.int j), o4, none] ∧ Chg (FL F lc) (FL F1 lc) H H' ∧ E13 c CW H' F1 S1 (n + i) ∧ WrO S1 ∧ ¬ F1 lc ∧ S1.d = S.d ∧ S1.p = S.p ∧ S1.bl.length = S.bl.length + j ∧ popN j S1.shp = S.shp ∧ j ≤ i ∧ H' lc = some (.lst xs)) ?_ ?_ ?_ ?_⟩
    · exact ⟨F, S, 0, none, rfl, Chg.refl _ _, hd, hwo, nl, rfl, rfl, rfl, rfl, Nat.le_refl _, hl⟩
    · rintro i σ H1 _ ⟨F1, S1, j, o4, rfl, cg, _⟩
      exact SqL.of (cg.off hml nml).1
    · rintro i x σ H1 hx ⟨F1, S1, j, o4, rfl, cg, hd1, w1, n1, e1, e2, e3, e4, e5, e6⟩
      obtain ⟨zz, hz, rfl⟩ : ∃ zz ∈ ms, V.str zz = x := List.mem_map.mp (List.mem_of_getElem? hx)
      have il : i < ms.length := by
        have := (List.getElem?_eq_some_iff.mp hx).1
        rwa [List.length_map] at this
      refine ⟨_, rfl, _, rfl, _, rfl, ?_⟩
      unfold spEnter13
      refine ⟨S1, F1, n + i, zz, by rw [e1]; rfl, hmd zz hz, hd1, by omega, fun H2 s2 => ?_, fun H2 F2 S2 cg2 hd2 g1 g2 g3 g4 _ g6 => ?_⟩
      · exact .inr ⟨false, rfl, _, _, rfl, rfl, F1, S1, j, _, rfl, cg.trans (Chg.same s2), (hd1.same s2).up (by omega), w1, n1, e1, e2, e3, e4, by omega, s2 _ _ e6⟩
      · refine .inr ⟨true, rfl, _, _, rfl, rfl, F2, S2, j + 1, _, rfl, cg.trans (cg2.fl lc), hd2.up (by omega), g6 w1, (cg2.off e6 n1).2, g1.trans e1, g2.trans e2, by omega, ?_, by omega, (cg2.off e6 n1).1⟩
        show popN j (popH S2.shp) = S.shp
        rw [g4]
        exact e4
    · rintro σ H1 ⟨F1, S1, j, o4, rfl, cg, hd1, w1, n1, e1, e2, e3, e4, e5, e6⟩
      rw [List.length_map] at hd1 e5
      have hd1 := hd1.up (show n + ms.length ≤ n + 4 by omega)
      obtain ⟨⟨ml1, hwy1, _⟩, _⟩ := wf.chg cg
      obtain ⟨m, hm, m1, m2, m3⟩ : ∃ m : Nat, (m : Int) = (if (j : Int) < (lv : Int) then (j : Int) else (lv : Int)) ∧ m ≤ j ∧ m ≤ lv ∧ (j < lv → m = j) := by
        by_cases q : j < lv
        · exact ⟨j, by rw [if_pos (by omega)], by omega, by omega, fun _ => rfl⟩
        · exact ⟨lv, by rw [if_neg (by omega)], by omega, by omega, fun h => absurd h q⟩
      refine ⟨_, rfl, wy, _, 1, _, rfl, rfl, SqT.of hwy1, rfl, _, rfl, _, _, rfl, (m : Int), (by rw [hm]), by omega, by omega, for_range (lo := 0) (n := m) (fun i σ H' => ∃ (F1 : Addr → Prop) (S1 : SG) (o5 : Option V), σ = [some (.ref S.d), some (.ref lc), some (.ref wy), some (.int j), o4, o5] ∧ Chg (FL F lc) (FL F1 lc) H H' ∧ E13 c CW H' F1 S1 (n + 4) ∧ WrO S1 ∧ ¬ F1 lc ∧ S1.d = S.d ∧ S1.p = S.p ∧ S1.bl.length + i = S.bl.length + j ∧ popN (j - i) S1.shp = S.shp ∧ H' lc = some (.lst xs)) ⟨F1, S1, _, rfl, cg, hd1, w1, n1, e1, e2, e3, e4, e6⟩ ?_ ?_⟩
      · rintro i σ H2 hi ⟨F2, S2, o5, rfl, cg2, hd2, w2, n2, f1, f2, f3, f4, f6⟩
        have h2 := hd2.D.db.db.hd
        rw [f1] at h2
        refine ⟨_, rfl, S.d, S2.p.dx, _, rfl, h2, rfl, S2, F2, .str "wrong", true, by rw [f1]; rfl, hd2.D.db, hd2.g (by omega), .inr (.inr ⟨?_, hd2.sorts (by omega), some "wrong", rfl, fun w e => ?_, fun H3 S3 r ks us fr hd3 le lr ft => ?_⟩)⟩
        · rw [f2, hfl]
          omega
        · injection e with e
          rw [← e]
          exact isw_wrong
        · have re := lr.err
          refine ⟨fun _ => ?_, fun q => ?_, fun q => ?_⟩
          · have cg3 : Chg F2 (tgt F2 H3) H2 H3 := fr.chg.tight
            have lb := le.bl
            refine ⟨_, S3, _, rfl, cg2.trans (cg3.fl lc), hd2.leave hd3 le lr ft, w2.leave lr, (cg3.off f6 n2).2, le.d.trans f1, le.p.trans f2, by omega, ?_, (cg3.off f6 n2).1⟩
            have : j - i = (j - (i + 1)) + 1 := by omega
            rw [this] at f4
            rw [lr.shp]
            exact f4
          · rw [re] at q
            exact absurd q (by decide)
          · rw [re] at q
            exact absurd q (by decide)
      · rintro σ H2 ⟨F2, S2, o5, rfl, cg2, hd2, w2, n2, f1, f2, f3, f4, f6⟩
        obtain ⟨⟨ml2, hwy2, _⟩, _⟩ := wf.chg cg2
        refine ⟨_, rfl, .inl ⟨rfl, _, SqL.of f6⟩, _, rfl, _, rfl, wy, _, 1, _, rfl, rfl, SqT.of hwy2, rfl, _, rfl, _, _, rfl, _, _, rfl, rfl, lc, _, _, rfl, rfl, f6, small1000 (by omega), ?_⟩
        obtain ⟨kk, hk⟩ : ∃ kk, kk = j - m := ⟨_, rfl⟩
        have ev : (V.int ((j : Int) - (if (j : Int) < (lv : Int) then (j : Int) else (lv : Int)))) = V.int (kk : Int) := by
          rw [← hm]
          exact congrArg V.int (by omega)
        generalize eH : upd H2 lc _ = H3
        have eH3 : H3 = upd H2 lc (.lst (xs ++ [.int (kk : Int)])) := by
          rw [← eH]
          exact congrArg (fun v => upd H2 lc (.lst (xs ++ [v]))) ev
        have cg3 : Chg (FL F2 lc) (FL F2 lc) H2 H3 := by rw [eH3]; exact Chg.lst
        have hd3 : E13 c CW H3 F2 S2 (n + 4) := hd2.mv fun x o f e => by
          rw [eH3, upd_ne fun q => n2 (by rw [← q]; exact f)]
          exact e
        have l3 : H3 lc = some (.lst (xs ++ [.int (kk : Int)])) := by rw [eH3]; exact upd_same
        have hwy3 := (wf.chg (cg2.trans cg3)).ex
        obtain ⟨ml3, hwy3, _⟩ := hwy3
        refine ⟨fun σ' H' => ∃ xs1, σ' = [some (.ref S.d), some (.ref lc), some (.ref wy), some (.int j), o4, o5] ∧ Chg (FL F lc) (FL F2 lc) H H' ∧ E13 c CW H' F2 S2 (n + 4) ∧ H' lc = some (.lst xs1) ∧ Noted xs kk xs1, ?_, ?_⟩
        · refine ⟨_, rfl, wy, _, 1, _, rfl, rfl, SqT.of hwy3, rfl, _, rfl, _, _, rfl, rfl, _, rfl, ite2 (fun c1 => ?_) (fun c1 => ?_)⟩
          · have c1 : (j : Int) < (lv : Int) := of_decide_eq_true c1
            have mj := m3 (by omega)
            refine ⟨_, rfl, .inl ⟨rfl, _, SqL.of l3⟩, _, rfl, ?_⟩
            unfold spBare13
            refine ⟨S2, F2, n + 4, by rw [f1]; rfl, hd3, by omega, by rw [f2, hfl]; omega, lc, _, _, rfl, rfl, l3, small1000 (by rw [List.length_append]; show xs.length + 1 ≤ 1000; omega), ?_⟩
            refine ⟨_, rfl, (cg2.trans cg3).trans Chg.lst, hd3.mv (fun x o f e => ?_), upd_same, .inr ⟨by omega, ?_⟩⟩
            · rw [upd_ne fun q => n2 (by rw [← q]; exact f)]
              exact e
            · rw [List.append_assoc]
              rfl
          · exact ⟨_, rfl, cg2.trans cg3, hd3, l3, .inl rfl⟩
        · rintro σ' H4 ⟨xs1, rfl, cg4, hd4, l4, nt⟩
          obtain ⟨ml4, hwy4, _⟩ := (wf.chg cg4).ex
          have k1 := k H4 F2 S2 kk xs1 cg4 hd4 w2 n2 f1 f2 (by omega) (by rw [hk]; exact f4) l4 nt
          refine ⟨_, rfl, wy, _, 2, _, rfl, rfl, SqT.of hwy4, rfl, rfl, _, rfl, ?_⟩
          refine ite2 (fun c1 => ?_) (fun c1 => ?_)
          · have hz : z ≠ "" := fun e => by rw [e] at c1; exact absurd c1 (by decide)
            exact ⟨_, rfl, wy, _, 2, _, rfl, rfl, SqT.of hwy4, rfl, mke _ rfl fun x hx => k1.2 hz x _ (Same.new hx) upd_same⟩
          · have hz : z = "" := Classical.byContradiction fun e => c1 (by simp [e])
            exact k1.1 hz
end
end IC
namespace IC
open PySem PySem.Spec PyProof.Rows L2 L2H TL NdefX LamX
/-! ### what a database owns is no table, no function and no caught error -/
def noX (o : HO) : Prop := (∀ ps, o ≠ .tbl ps) ∧ (∀ f, o ≠ .ext f) ∧ ∀ fs, o ≠ .xd fs
section
variable {c : Cs} {CW : Addr} {H H' : Hp} {F F' G : Addr → Prop} {p : DbP} {T : Tr} {S S' : SG} {n : Nat}
theorem WAt.noX {hv : V} {x : Wr} (h : WAt CW H hv x) (g : ∀ {x : Addr} {o : HO}, H x = some o → noX o → G x) : G x.a := by
  obtain ⟨dx, f, e⟩ := h
  exact g e ⟨nofun, nofun, nofun⟩
theorem TrG.noX (h : TrG c CW H F p T) (g : ∀ {x : Addr} {o : HO}, H x = some o → noX o → G x) : TrG c CW H (fun x => F x ∧ G x) p T :=
  { h with
    ft := ⟨h.ft, g h.ht ⟨nofun, nofun, nofun⟩⟩
    fo := ⟨h.fo, g h.ho ⟨nofun, nofun, nofun⟩⟩
    fs := ⟨h.fs, g h.hs ⟨nofun, nofun, nofun⟩⟩
    fw := fun x hx => ⟨h.fw x hx, (h.hw x hx).noX g⟩ }
theorem BkR.noX (g : ∀ {x : Addr} {o : HO}, H x = some o → noX o → G x) : ∀ {l : List Addr} {m : List (Str × V)}, BkR H F l m → BkR H (fun x => F x ∧ G x) l m
  | [], [], _ => trivial
  | [], _ :: _, h => h.elim
  | _ :: _, [], h => h.elim
  | _ :: _, _ :: _, h => ⟨⟨h.1.1, h.1.2, g h.1.1 ⟨nofun, nofun, nofun⟩⟩, BkR.noX g h.2⟩
theorem DbG.noX (h : DbG c CW H F S) (g : ∀ {x : Addr} {o : HO}, H x = some o → noX o → G x) : DbG c CW H (fun x => F x ∧ G x) S := by
  refine ⟨⟨h.db.hd, h.db.hb, h.db.hm, h.db.hh, h.db.hk, h.db.hw, h.db.nbm, h.db.nhk, ⟨h.db.fd, g h.db.hd ⟨nofun, nofun, nofun⟩⟩, ⟨h.db.fb, g h.db.hb ⟨nofun, nofun, nofun⟩⟩, ⟨h.db.fm, g h.db.hm ⟨nofun, nofun, nofun⟩⟩, ⟨h.db.fh, g h.db.hh ⟨nofun, nofun, nofun⟩⟩, ⟨h.db.fk, g h.db.hk ⟨nofun, nofun, nofun⟩⟩, fun x hx => ⟨h.db.fw x hx, ?_⟩⟩,
    fun T hT => (h.tr T hT).noX g, h.hl, h.all, h.owd, h.one, h.nl, fun z hz => ⟨h.fl z hz, ?_⟩, h.ap, h.bk.noX g, h.wf, h.hn⟩
  · obtain ⟨v, dx, f, e⟩ := h.db.hw x hx
    exact g e ⟨nofun, nofun, nofun⟩
  · obtain ⟨T, hT, n⟩ := h.owd z hz
    exact g (h.hl T hT z hz n) ⟨nofun, nofun, nofun⟩
theorem E13.noX (E : E13 c CW H F S n) : E13 c CW H (fun x => F x ∧ ∃ o, H x = some o ∧ noX o) S n :=
  ⟨⟨E.D.db.noX fun {x o} e h => ⟨o, e, h⟩, ⟨E.D.ft.eq, E.D.ft.nd, E.D.ft.at_, fun x hx => ⟨E.D.ft.fw x hx, by obtain ⟨dx, hv, e⟩ := E.D.ft.at_ x hx; exact ⟨_, e, ⟨nofun, nofun, nofun⟩⟩⟩⟩, E.D.sz, fun x f => E.D.al x f.1⟩, E.he⟩
theorem LvR.goes {err : Option Str} {r : Str} {ks us : List Wr} (h : LvR S S' err true r ks us) : r ≠ "refused" := by
  have n1 : ("" : Str) ≠ "refused" := by decide
  unfold LvR at h
  cases es : S.sorts with
  | nil => rw [es] at h; exact h.elim
  | cons o s =>
    rw [es] at h
    cases o with
    | plain => rw [h.2.2.2.2.1]; exact n1
    | outside => rw [h.2.2.2.1]; exact n1
    | joined => rw [h.2.2.2.1]; exact n1
    | level =>
      obtain ⟨T, l, l2, e, _, _, _, _, h | h⟩ := h
      · rw [h.2.2.2.2]
        cases err with
        | none => decide
        | some u => exact n1
      · rw [h.2.2.2.2.2]
        exact n1
    | base =>
      obtain ⟨T, l, o, _, _, _, _, _, h | h | h⟩ := h
      · rw [h.2.2.2]
        cases err with
        | none => decide
        | some u => exact n1
      · rw [h.2.2.2.2.2]
        exact n1
      · exact absurd h.2.2.1 nofun
end
/-- what the call of within comes to, its block entered -/
def Fin13 (c : Cs) (CW EF : Addr) (H : Hp) (F : Addr → Prop) (S : SG) (n : Nat) (lc : Addr) (xs : List V) (w : Str) (Q : VK) (E : XK) : Prop :=
  ∀ (H3 : Hp) (F3 : Addr → Prop) (S3 : SG) (k : Nat) (xs1 : List V), Chg (FL F lc) (FL F3 lc) H H3 → E13 c CW H3 F3 S3 (n + 5) → ¬ F3 lc → S3.d = S.d → S3.p = S.p → S3.bl.length = S.bl.length → S3.shp = S.shp → H3 lc = some (.lst xs1) → Noted xs k xs1 →
    (w = "" → k = 0 → Q (.str "told") H3 ∧ ∀ u : Option Str, u = none ∨ u = some "wrong" → ErrQ c.O (fsD (oV u)) H3 E) ∧ ((w ≠ "" ∨ 0 < k) → ∀ x, H3 x = some (.xd (fsB (.str (if w = "" then "unleft" else w)))) → E (.ref EF) (some x) H3)
def Wi13 (c : Cs) (CW EF : Addr) (H : Hp) (F : Addr → Prop) (S : SG) (n : Nat) (lc : Addr) (xs : List V) (w z : Str) (Q : VK) (E : XK) : Ek → Prop
  | .miss => ErrQ c.M (fsM (.str z)) H E
  | .pres => ErrQ c.P (fsP (.str z)) H E
  | .doom u => ErrQ c.O (fsD (.str u)) H E
  | _ => Fin13 c CW EF H F S n lc xs w Q E
def spWithin13 (c : Cs) (CW EF : Addr) : SpC := fun cl ws vs H Q E => ∃ (S : SG) (F : Addr → Prop) (n : Nat) (z : Str) (f c' kt : Addr) (keys : List Str) (lc wy : Addr) (xs : List V) (ms : List Str) (lv : Nat) (w : Str), vs = [.ref S.d, .str z, .ref f, .ref kt, .bl true] ∧ ws = [some (.ref lc), some (.ref wy)] ∧ z ∈ modesS ∧ E13 c CW H F S n ∧ n ≤ 700 ∧ WrO S ∧ S.p.fl ≤ S.bl.length ∧
  (H kt = some (.tup (keys.map V.str)) ∧ ¬ FL F lc kt ∧ keys.length ≤ 100) ∧ (H f = some (FnO f (deedF cl c')) ∧ ¬ FL F lc f ∧ H (deedF cl c').c = some (CodeO (deedF cl c').c (deedF cl c').qual) ∧ ¬ FL F lc (deedF cl c').c) ∧ (H lc = some (.lst xs) ∧ ¬ F lc ∧ xs.length ≤ 100) ∧ WayF H (FL F lc) wy ms lv w ∧ Wi13 c CW EF H F S n lc xs w z Q E (kG S z)
section
variable {P : Program} {w : World} {K : PySem.W.Frag} {mg : Str → Option Value} {base : Heap} {c : Cs} {CW EB EN EW ER EF : Addr}
theorem ok_within13 {f : Addr} {fd : FuncData} {dvs : List V} {kws : List (Str × V)} (F : FunD K "within" "Database.within" (defArgs s_Database_within) (defBody s_Database_within) (defScope s_Database_within) dvs kws f fd) (T : Bn mg) (B : DbTxt K mg c)
    (M_enter : MDf P w K mg base (L2.CX P w) 4 c.D "enter" ["self", "mode"] [] (spEnterG c CW)) (M_above : MDfH P w K mg base 4 c.D "_leave_above" ["self", "floor", "word"] (spAbove13 c CW)) (M_end_blockH : MDfH P w K mg base 3 c.D "_end_block" ["self", "error", "commits"] (spEndBG c CW))
    (K_leave0 : KDf P w K mg base (L2.CX P w) 4 c.D "leave" 0 ["commits"] (fun vs zs => vs ++ [.non] ++ zs) ["self", "error", "commits"] (spLeaveG K c CW EB EN ER)) (E_Rh : EDh0 P w K mg base 1 "Refused" ER fsRf) (XF : XfC K EF) (nF : PySem.W.findIn K (.ref EF) "word" = some none)
    (E_F : EDf P w K mg base 1 "Failed" EF "word" fsB) (kF : PySem.W.keepIn K (.ref EF) = true)
    (gO : mg "Doomed" = some (.ref c.O)) (gM : mg "Missing" = some (.ref c.M)) (gP : mg "Present" = some (.ref c.P)) (gR : mg "Refused" = some (.ref ER)) (gW : mg "Waits" = some (.ref EW)) (gF : mg "Failed" = some (.ref EF))
    (hx : PySem.W.exmAny K (.ref EF) [.ref c.O, .ref c.M, .ref c.P, .ref ER, .ref EW, .ref EF] = some true)
    (Dd : ∀ (cl : List (Str × Addr)) (f c' : Addr), NOk P w K mg base (L2N.CX P w) 6 f (deedF cl c') ["given"] ["notes", "ways"] (spDeed13 c CW EF)) :
    FnS P w K mg base (L2.CX P w) 7 f fd ["self", "mode", "deed", "keep", "commits"] ["notes", "ways"] (spWithin13 c CW EF) := by
  refine IC.FunD.okS F sc_Database_within (fun cl ws vs H Q E h => ?_) (fun cdv A outer s H vs Q E cl ws hr C h => ?_)
  · obtain ⟨S, F, n, z, f, c', kt, keys, lc, wy, xs, ms, lv, w, rfl, _⟩ := h
    rfl
  · obtain ⟨S, F, n, z, f, c', kt, keys, lc, wy, xs, ms, lv, wd, rfl, rfl, hm, hd, hn, hwo, hfl, ⟨ht, nt, lt⟩, ⟨hf, nf, hc', nc⟩, ⟨hl, nl, zl⟩, wf, k⟩ := h
    have hu := hu_of hr
    refine ⟨_, (Evl.pss_cut (ps_expr (pe_mdX M_enter B.cD (takes_of rfl rfl rfl rfl) hr (by decide) (pv 0) (pa_cons (pv 1) pa_nil)))
      (pss_cons (ps_set (i := 5) sc_Database_within.nd rfl (Or.inl rfl) (pe_fld (pv 0) rfl))
      (pss_cons (ps_fld (pv 0) (pe_callB call_len_seq (by rfl) T.len PySem.boot_len (pa_cons (pe_fld (pv 0) rfl) pa_nil)) rfl)
      (pss_cons (ps_tryFin (i := 7) rfl rfl rfl sc_Database_within.nd rfl rfl (takes_of rfl rfl rfl rfl)
        (fun W pn xe tk _ => (pss_cons (ps_set (i := 6) sc_Database_within.nd rfl (Or.inl rfl) (pe_calldN (i := 2) (mk := deedF) (cl := cl) (ws := [some (.ref lc), some (.ref wy)]) (sp := fun _ _ => spDeed13 c CW EF) (Dd cl) (fun _ => rfl) C rfl tk hr (by decide) rfl (Or.inl rfl) (pa_cons (pv 0) pa_nil)))
          (pss_one (ps_if (pt_cmpR op_gt (pe_callB (show CallR _ _ (rLenK K) from call_len_seq) (by rfl) T.len PySem.boot_len (pa_cons (pe_fldK (K := K) rfl (pv 0)) pa_nil)) (pe_fldK (K := K) rfl (pv 0)) (nomark _)) (pss_one (L2N.ps_raise rfl tk (pmk_edN E_F kF hr (by decide) rfl (pa_cons pe_str pa_nil)))) pss_nil))))
        (fun a pn => pe_tup (pa_cons (pe_glob (v := .ref _) rfl gO rfl) (pa_cons (pe_glob (v := .ref _) rfl gM rfl) (pa_cons (pe_glob (v := .ref _) rfl gP rfl) (pa_cons (pe_glob (v := .ref _) rfl gR rfl) (pa_cons (pe_glob (v := .ref _) rfl gW rfl) (pa_cons (pe_glob (v := .ref _) rfl gF rfl) pa_nil)))))))
        (fun a oe cls d pn xe W hz hf tk hc bare => (pss_cons (ps_expr (pe_mdH M_above B.cD hc (roomH_mark hr _) (by decide) (pv 0) (pa_cons (pe_fldK (K := K) rfl (pv 0)) (pa_cons (PE.nox (pe_xf XF nF hz.zc hf (pv 7))) pa_nil))))
          (Evl.pss_cut (ps_set (i := 8) sc_Database_within.nd rfl (Or.inl rfl) (pe_ifExp (pt_cmpR (show OpR _ _ (rIn K false) from op_in_seq) (PE.nox (pe_xf XF nF hz.zc hf (pv 7))) (pv 3) (by rfl)) pe_non (PE.nox (pe_xf XF nF hz.zc hf (pv 7)))))
          (pss_cons (ps_if (pt_cmpR op_eq (pe_mdH M_end_blockH B.cD hc (roomH_mark hr _) (by decide) (pv 0) (pa_cons (pv 8) (pa_cons (pv 4) pa_nil))) pe_str (nomark _)) (pss_one (ps_raiseHN hc tk (pmk5_ed0 E_Rh hc (roomH_mark hr _) (by decide) rfl))) pss_nil)
          (pss_one (bare _))))))
        (pss_one (ps_fldK (K := K) rfl (pv 0) (pv 5)))
        (fun a pn => (pss_one (ps_fldK (K := K) rfl (pv 0) (pv 5)))))
      (pss_cons (ps_expr (pe_mdXK0 K_leave0 B.cD (takes_of rfl rfl rfl rfl) hr (by decide) (pv 0) (pk_cons (pv 4) pk_nil)))
      (pss_one (ps_ret (pv 6)))))))), ?_⟩
    refine ⟨fun σ' H1 => ∃ (F1 : Addr → Prop) (S1 : SG), σ' = [some (.ref S.d), some (.str z), some (.ref f), some (.ref kt), some (.bl true), none, none, none, none] ∧ Chg F F1 H H1 ∧ E13 c CW H1 F1 S1 (n + 1) ∧ WrO S1 ∧ S1.d = S.d ∧ S1.p = S.p ∧ S1.bl.length = S.bl.length + 1 ∧ popH S1.shp = S.shp ∧ Fin13 c CW EF H F S n lc xs wd Q E, ?_, ?_⟩
    · refine ⟨_, rfl, S.d, S.p.dx, _, rfl, hd.D.db.db.hd, rfl, _, rfl, S, F, z, rfl, hm, hd.D.db, hd.g (by omega), ?_⟩
      revert k
      cases kG S z with
      | miss => exact fun k => k
      | pres => exact fun k => k
      | doom u => exact fun k => k
      | noth => exact fun k H1 F1 S1 fr hd1 ws e1 e2 e3 e4 e5 e6 er => ⟨_, S1, rfl, fr.chg.tight, hd.ent fr hd1 ws e3 e4 e5 e6 er, hwo.ent er, e1, e2, e6, er.shp, k⟩
      | dooms => exact fun k H1 F1 S1 fr hd1 ws e1 e2 e3 e4 e5 e6 er => ⟨_, S1, rfl, fr.chg.tight, hd.ent fr hd1 ws e3 e4 e5 e6 er, hwo.ent er, e1, e2, e6, er.shp, k⟩
      | fresh => exact fun k H1 F1 S1 fr hd1 ws e1 e2 e3 e4 e5 e6 er => ⟨_, S1, rfl, fr.chg.tight, hd.ent fr hd1 ws e3 e4 e5 e6 er, hwo.ent er, e1, e2, e6, er.shp, k⟩
      | inner => exact fun k H1 F1 S1 fr hd1 ws e1 e2 e3 e4 e5 e6 er => ⟨_, S1, rfl, fr.chg.tight, hd.ent fr hd1 ws e3 e4 e5 e6 er, hwo.ent er, e1, e2, e6, er.shp, k⟩
    · rintro σ' H1 ⟨F1, S1, rfl, cg1, hd1, w1, e1, e2, e6, es, kk⟩
      have h1 := hd1.D.db.db.hd
      rw [e1, e2] at h1
      have hb1 := hd1.D.db.db.hb
      rw [e2] at hb1
      refine ⟨_, rfl, S.d, c.D, S.p.dx, _, _, rfl, h1, B.cD, B.nF, rfl, ?_⟩
      refine ⟨_, rfl, S.d, c.D, S.p.dx, _, _, rfl, h1, B.cD, B.nB, rfl, S.p.b, _, rfl, .inl (SqL.of hb1), ?_⟩
      refine ⟨_, rfl, S.d, c.D, S.p.dx, _, rfl, h1, B.cD, B.nF, ?_⟩
      have ev : ((S1.bl.map V.ref).length : Int) = (S.bl.length : Int) + 1 := by
        rw [List.length_map, e6]
        rfl
      refine ⟨by show 6 < 1000; decide, ?_⟩
      rw [ev]
      generalize hW : wTF _ _ _ _ _ _ = W
      have hd2 := hd1.setFl ((S.bl.length : Int) + 1)
      have f2 := (hd1.D.db.flFr ((S.bl.length : Int) + 1)).1.chg
      rw [e1, e2] at hd2 f2
      obtain ⟨H2, eH⟩ : ∃ H2, H2 = upd H1 S.d (HO.ins c.D S.p.dx (putF "_floor" (V.int ((S.bl.length : Int) + 1)) (dbf (vT S1.top) S.p.fl S.p.b S.p.m S.p.h S.p.k))) := ⟨_, rfl⟩
      have hd2 : E13 c CW H2 F1 (S1.setFl ((S.bl.length : Int) + 1)) (n + 1) := by rw [eH]; exact hd2
      have f2 : Chg F1 F1 H1 H2 := by rw [eH]; exact f2
      rw [← eH]
      have cg2 : Chg (FL F lc) (FL F1 lc) H H2 := (cg1.trans f2).fl lc
      have l2 := (cg1.trans f2).off hl nl
      have hot : ∀ (o6 : Option V) (H3 : Hp) (F3 : Addr → Prop) (S3 : SG) (k : Nat) (xs1 : List V) (x : Addr) (w0 : Str), Chg (FL F lc) (FL F3 lc) H H3 → E13 c CW H3 F3 S3 (n + 5) → ¬ F3 lc → S3.d = S.d → S3.p = { S.p with fl := (S.bl.length : Int) + 1 } → S3.bl.length = S.bl.length + 1 + k → popN k S3.shp = S1.shp → H3 lc = some (.lst xs1) → Noted xs k xs1 →
          H3 x = some (.xd (fsB (.str w0))) → w0 = (if wd = "" then ("unleft" : Str) else wd) → (wd ≠ "" ∨ 0 < k) → W (.ref EF) (some x) [some (.ref S.d), some (.str z), some (.ref f), some (.ref kt), some (.bl true), some (.int S.p.fl), o6, none, none] H3 := by
        intro o6 H3 F3 S3 k xs1 x w0 cg3 hd3 n3 d3 p3 b3 s3 l3 nt3 hx3 ew hk
        rw [← hW]
        obtain ⟨F4, eF4⟩ : ∃ F4 : Addr → Prop, F4 = (fun y => F3 y ∧ ∃ o, H3 y = some o ∧ noX o) := ⟨_, rfl⟩
        have hd4 : E13 c CW H3 F4 S3 (n + 5) := by rw [eF4]; exact hd3.noX
        have nx4 : ¬ F4 x := by
          rw [eF4]
          rintro ⟨_, o, e, q⟩
          rw [hx3] at e
          exact q.2.2 _ (Option.some.inj e).symm
        have n4 : ¬ F4 lc := by rw [eF4]; exact fun q => n3 q.1
        have cg4 : Chg (FL F lc) (FL F4 lc) H H3 := cg3.sub (fun _ q => q) fun y q => by
          rw [eF4] at q
          rcases q with q | q
          · exact .inl (.inl q.1)
          · exact .inl (.inr q)
        refine ⟨by show 6 ≤ sizeLine; decide, fun tp ntp => ⟨tp, [c.O, c.M, c.P, ER, EW, EF], rfl, SqT.of upd_same, hx, fun a na => ?_⟩⟩
        have s4 := Same.new (o := .tup [.ref c.O, .ref c.M, .ref c.P, .ref ER, .ref EW, .ref EF]) ntp
        obtain ⟨H4, eH4⟩ : ∃ H4, H4 = upd H3 tp (.tup [.ref c.O, .ref c.M, .ref c.P, .ref ER, .ref EW, .ref EF]) := ⟨_, rfl⟩
        rw [← eH4] at s4
        rw [← eH4]
        have hd5 := hd4.same s4
        have h4 := hd5.D.db.db.hd
        rw [d3, p3] at h4
        have hx4 := s4 _ _ hx3
        refine ⟨_, rfl, S.d, S.p.dx, _, rfl, h4, rfl, _, rfl, S.d, c.D, S.p.dx, _, _, rfl, h4, B.cD, B.nF, rfl, _, rfl, rfl, rfl, x, _, _, rfl, hx4, rfl, S3, F4, n + 5, S.bl.length + 1, k, w0, ?_, hd5, by omega, b3, fun H5 F5 S5 cg5 hd5 d5 p5 b5 s5 => ?_⟩
        · rw [d3]
          rfl
        have cg6 : Chg (FL F lc) (FL F5 lc) H H5 := cg4.trans ((Chg.same s4).trans (cg5.fl lc))
        have hx5 := cg5.off hx4 nx4
        have ht5 := (cg6.off ht nt).1
        have l5 := cg5.off (s4 _ _ l3) n4
        refine ⟨fun σ' H' => σ' = [some (.ref S.d), some (.str z), some (.ref f), some (.ref kt), some (.bl true), some (.int S.p.fl), o6, some (.ref a), some (oV (if w0 ∈ keys then none else some w0))] ∧ H' = H5, ?_, ?_⟩
        · refine ⟨_, rfl, rfl, rfl, x, _, _, rfl, hx5.1, rfl, _, rfl, kt, _, rfl, .inr (SqT.of ht5), rfl, flat_keys keys, _, rfl, ?_⟩
          rw [inV_keys]
          by_cases hq : w0 ∈ keys
          · rw [decide_eq_true hq, if_pos hq]
            exact iteT ⟨rfl, rfl⟩
          · rw [decide_eq_false hq, if_neg hq]
            exact iteF ⟨_, rfl, rfl, rfl, x, _, _, rfl, hx5.1, rfl, rfl, rfl⟩
        rintro σ' H' ⟨rfl, rfl⟩
        have h5 := hd5.D.db.db.hd
        have d5' : S5.d = S.d := d5.trans d3
        have p5' : S5.p = { S.p with fl := (S.bl.length : Int) + 1 } := p5.trans p3
        rw [d5', p5'] at h5
        refine ⟨_, rfl, S.d, S.p.dx, _, rfl, h5, rfl, _, rfl, _, rfl, S5, F5, (if w0 ∈ keys then none else some w0), true, ?_, hd5.D.db, hd5.g (by omega), hd5.sorts (by omega), fun H6 S6 r ks us fr6 hd6 le lr ft => ?_⟩
        · rw [d5']
          rfl
        have hg := lr.goes
        have hd6' := hd5.leave hd6 le lr ft
        have cg7 : Chg F5 (tgt F5 H6) H' H6 := fr6.chg.tight
        have d6 : S6.d = S.d := le.d.trans d5'
        have p6 : S6.p = { S.p with fl := (S.bl.length : Int) + 1 } := le.p.trans p5'
        have h6 := hd6'.D.db.db.hd
        rw [d6, p6] at h6
        have hd7 := hd6'.setFl S.p.fl
        have f7 := (hd6'.D.db.flFr S.p.fl).1.chg
        rw [d6, p6] at hd7 f7
        refine ⟨rfl, _, rfl, ite2 (fun c1 => ?_) (fun c1 => ?_)⟩
        · exact absurd (by simpa using c1) hg
        refine ⟨_, rfl, _, rfl, S.d, c.D, S.p.dx, _, rfl, h6, B.cD, B.nF, by show 6 < 1000; decide, ?_⟩
        have x7 := (cg7.trans f7).off hx5.1 hx5.2
        have l7 := (cg7.trans f7).off l5.1 l5.2
        have lb := le.bl
        refine (kk _ _ (S6.setFl S.p.fl) k xs1 (cg6.trans ((cg7.trans f7).fl lc)) hd7 l7.2 d6 ?_ ?_ ?_ l7.1 nt3).2 hk x ?_
        · show ({ S6.p with fl := S.p.fl } : DbP) = S.p
          rw [p6]
        · show S6.bl.length = _
          omega
        · show S6.shp = _
          rw [lr.shp, s5, s3, es]
        · rw [← ew]
          exact x7.1
      refine ⟨f, c', rfl, (cg2.off hf nf).1, _, rfl, (cg2.off hf nf).1, (cg2.off hc' nc).1, S1.setFl ((S.bl.length : Int) + 1), F1, n + 1, lc, wy, xs, ms, lv, wd, rfl, ?_, hd2, by omega, w1, ?_, l2.1, l2.2, zl, wf.chg cg2, fun H3 F3 S3 k xs1 cg3 hd3 w3 n3 d3 p3 b3 s3 l3 nt3 => ?_⟩
      · show _ = [V.ref S1.d]
        rw [e1]
      · show (S.bl.length : Int) + 1 = (S1.bl.length : Int)
        omega
      have d3' : S3.d = S.d := d3.trans e1
      have p3' : S3.p = { S.p with fl := (S.bl.length : Int) + 1 } := p3.trans (by rw [← e2]; rfl)
      have b3' : S3.bl.length = S.bl.length + 1 + k := b3.trans (by show S1.bl.length + k = _; omega)
      have hd3' : E13 c CW H3 F3 S3 (n + 5) := hd3.up (by omega)
      refine ⟨fun hw0 => ?_, fun hw1 x H4 s4 hx4 => hot none H4 F3 S3 k xs1 x wd ((cg2.trans cg3).trans (Chg.same s4)) (hd3'.same s4) n3 d3' p3' b3' s3 (s4 _ _ l3) nt3 hx4 (by rw [if_neg hw1]) (.inl hw1)⟩
      have h3 := hd3.D.db.db.hd
      rw [d3', p3'] at h3
      have hb3 := hd3.D.db.db.hb
      rw [p3'] at hb3
      refine ⟨_, rfl, S.d, c.D, S.p.dx, _, _, rfl, h3, B.cD, B.nB, rfl, S.p.b, _, rfl, .inl (SqL.of hb3), _, rfl, S.d, c.D, S.p.dx, _, _, rfl, h3, B.cD, B.nF, rfl, ?_⟩
      rw [List.length_map, b3']
      refine ⟨_, _, rfl, rfl, _, rfl, ite2 (fun c1 => ?_) (fun c1 => ?_)⟩
      · have c1 : (S.bl.length : Int) + 1 < ((S.bl.length + 1 + k : Nat) : Int) := of_decide_eq_true c1
        refine mke (C := EF) (fs := fsB) (H1 := H3) (Q := fun cls d H' => W cls d [some (.ref S.d), some (.str z), some (.ref f), some (.ref kt), some (.bl true), some (.int S.p.fl), some (.str "told"), none, none] H') (.str "unleft") rfl fun x hx => ?_
        have s4 := Same.new (o := .xd (fsB (.str "unleft"))) hx
        exact hot _ _ F3 S3 k xs1 x "unleft" ((cg2.trans cg3).trans (Chg.same s4)) (hd3'.same s4) n3 d3' p3' b3' s3 (s4 _ _ l3) nt3 upd_same (by rw [if_pos hw0]) (.inr (by omega))
      have c1 : ¬ (S.bl.length : Int) + 1 < ((S.bl.length + 1 + k : Nat) : Int) := fun h => c1 (decide_eq_true h)
      obtain rfl : k = 0 := by omega
      refine ⟨_, rfl, _, rfl, S.d, c.D, S.p.dx, _, rfl, h3, B.cD, B.nF, by show 6 < 1000; decide, ?_⟩
      have hd4 := hd3'.setFl S.p.fl
      have f4 := (hd3'.D.db.flFr S.p.fl).1.chg
      rw [d3', p3'] at hd4 f4
      obtain ⟨H4, eH4⟩ : ∃ H4, H4 = upd H3 S.d (HO.ins c.D S.p.dx (putF "_floor" (V.int S.p.fl) (dbf (vT S3.top) ((S.bl.length : Int) + 1) S.p.b S.p.m S.p.h S.p.k))) := ⟨_, rfl⟩
      have hd4 : E13 c CW H4 F3 (S3.setFl S.p.fl) (n + 5) := by rw [eH4]; exact hd4
      have f4 : Chg F3 F3 H3 H4 := by rw [eH4]; exact f4
      show _
      rw [← eH4]
      have p4 : (S3.setFl S.p.fl).p = S.p := by show ({ S3.p with fl := S.p.fl } : DbP) = S.p; rw [p3']
      have e4 : (S3.setFl S.p.fl).d = S.d := d3'
      have h4 := hd4.D.db.db.hd
      rw [e4, p4] at h4
      refine ⟨_, rfl, S.d, S.p.dx, _, rfl, h4, rfl, _, rfl, rfl, S3.setFl S.p.fl, F3, .non, true, by rw [e4]; rfl, hd4.D.db, hd4.g (by omega), .inr (.inr ⟨?_, hd4.sorts (by show 0 < S3.bl.length; omega), none, rfl, nofun, fun H5 S5 r ks us fr5 hd5 le lr ft => ?_⟩)⟩
      · rw [p4]
        show ((S3.bl.length : Nat) : Int) ≠ S.p.fl
        omega
      have hg := lr.goes
      have cg5 : Chg F3 (tgt F3 H5) H4 H5 := fr5.chg.tight
      have l5 := (f4.trans cg5).off l3 n3
      have lb : S5.bl.length + 1 = S3.bl.length := le.bl
      have k1 := kk H5 _ S5 0 xs1 ((cg2.trans cg3).trans ((f4.trans cg5).fl lc)) (hd4.leave hd5 le lr ft) l5.2 (le.d.trans e4) (le.p.trans p4) (by omega) (by rw [lr.shp]; show popH S3.shp = _; rw [show S3.shp = S1.shp from s3, es]) l5.1 nt3
      have k2 := k1.1 hw0 rfl
      exact ⟨fun _ => ⟨_, rfl, k2.1⟩, fun _ => k2.2 _ w3.top, fun q => absurd q hg⟩
end
end IC
namespace IC
open PySem L2 TL
/-- entering succeeds -/
def kOk : Ek → Bool
  | .miss => false
  | .pres => false
  | .doom _ => false
  | _ => true
theorem EnG.of {c : Cs} {CW : Addr} {H : Hp} {F : Addr → Prop} {S : SG} {z : Str} {Q : VK} {E : XK} {k : Ek} (hk : kOk k = true)
    (h : ∀ (H' : Hp) (F' : Addr → Prop) (S' : SG), Fr F F' H H' → DbG c CW H' F' S' → Wst H H' → S'.d = S.d → S'.p = S.p → S'.made = S.made → S'.kept = S.kept → S'.held = S.held → S'.bl.length = S.bl.length + 1 → EntR S S' k → Q .non H') : EnG c CW H F S z Q E k := by
  cases k <;> first | exact h | cases hk
theorem EnG.both {c : Cs} {CW : Addr} {H : Hp} {F : Addr → Prop} {S : SG} {z : Str} {Q : VK} {E : XK} {k : Ek}
    (h : kOk k = true → ∀ (H' : Hp) (F' : Addr → Prop) (S' : SG), Fr F F' H H' → DbG c CW H' F' S' → Wst H H' → S'.d = S.d → S'.p = S.p → S'.made = S.made → S'.kept = S.kept → S'.held = S.held → S'.bl.length = S.bl.length + 1 → EntR S S' k → Q .non H')
    (b : kOk k = false → ∀ (C : Addr) (fs : List (Str × V)), (C = c.M ∨ C = c.P ∨ C = c.O) → ErrQ C fs H E) : EnG c CW H F S z Q E k := by
  cases k with
  | miss => exact b rfl _ _ (.inl rfl)
  | pres => exact b rfl _ _ (.inr (.inl rfl))
  | doom w => exact b rfl _ _ (.inr (.inr rfl))
  | noth => exact h rfl
  | dooms => exact h rfl
  | fresh => exact h rfl
  | inner => exact h rfl
theorem str_ne {a b : Str} (h : a ≠ b) : decide (V.str a = V.str b) = false := decide_eq_false fun e => h (by injection e)
theorem at_list {A : List Str} {d : Int} (h0 : 0 ≤ d) (h1 : d < A.length) : ∃ z ∈ A, atI (A.map V.str) d = some (.str z) := by
  obtain ⟨j, rfl⟩ : ∃ j : Nat, d = j := ⟨d.toNat, by omega⟩
  have hj : j < A.length := by omega
  refine ⟨A[j], List.getElem_mem hj, atI_nat ?_⟩
  rw [List.getElem?_map, List.getElem?_eq_getElem hj]
  rfl
theorem PoolAt.ne {H : Hp} {p l : Addr} {m : Int} (h : PoolAt H p m) (n : H l = none) : p ≠ l := by
  obtain ⟨a1, a2, a3, e, _⟩ := h
  exact ne_of_none e n
end IC
namespace IC
open PySem L2 TL
def spWays13 (K : PySem.W.Frag) : Sp := fun vs H Q _ => ∃ (p ml : Addr) (m : Int), vs = [.ref p, .ref ml] ∧ PoolAt H p m ∧ m ≤ 100000 ∧ H ml = some (.lst (modesS.map V.str)) ∧ p ≠ ml ∧
  ∀ (H' : Hp) (a b : Addr) (ms : List Str) (lv : Nat) (w : Str), Kp [p] H H' → PoolAt H' p (m + 60) → H a = none → H b = none → H' a = some (.tup [.ref b, .int lv, .str w]) → H' b = some (.lst (ms.map V.str)) → (∀ z ∈ ms, z ∈ modesS) → ms.length ≤ 4 → lv ≤ 4 → (w = "" ∨ IsW w) → Q (.ref a) H'
section
variable {P : Program} {w : World} {K : PySem.W.Frag} {mg : Str → Option Value} {base : Heap}
theorem ok_ways13 {f : Addr} {fd : FuncData} (F : Fun K "_law_ways" "_law_ways" s_law_ways f fd) (T : Bn mg) (D_law_draw : Df P w K mg base 1 "_law_draw" ["pool", "many"] spDraw) (D_law_word : Df P w K mg base 2 "_law_word" ["pool"] spWord) : FnOk P w K mg base CX0 3 f fd ["pool", "modes"] (spWays13 K) := by
  refine F.ok sc_law_ways (fun vs H Q E h => ?_) (fun cdv A outer s H vs Q E hr h => ?_)
  · obtain ⟨p, ml, m, rfl, _⟩ := h
    rfl
  · obtain ⟨p, ml, m, rfl, hp, hm, hl, npl, k⟩ := h
    refine ⟨_, (pss_cons (ps_setLc (i := 2) (own := [("k", 5)]) (g := gName 5) (tt := tYes) rfl sc_law_ways.nd rfl rfl rfl (pi_range1 rfl T.range (pa_cons (pe_df D_law_draw hr (by decide) rfl (pa_cons (pv 0) (pa_cons pe_int pa_nil))) pa_nil)) (blkOk_by (N := ["pool", "modes", "chosen", "leaves", "word", "k"]) (sc := defScope s_law_ways) (by decide +kernel)) (fun _ _ _ _ _ => pg_name (i := 5) sc_law_ways.nd rfl (Or.inl rfl)) (fun _ _ _ _ _ => pts_nil) (fun _ _ _ _ _ => (pe_ix (show IxR _ (rIxL K) from ix_list) (pv 1) (pe_df D_law_draw hr (by decide) rfl (pa_cons (pv 0) (pa_cons pe_int pa_nil))) (fun _ _ => rfl))))
  (pss_cons (ps_set (i := 3) sc_law_ways.nd rfl (Or.inl rfl) (pe_df D_law_draw hr (by decide) rfl (pa_cons (pv 0) (pa_cons pe_int pa_nil))))
  (Evl.pss_cut (ps_set (i := 4) sc_law_ways.nd rfl (Or.inl rfl) (pe_ifExp (pt_cmpR op_eq (pe_df D_law_draw hr (by decide) rfl (pa_cons (pv 0) (pa_cons pe_int pa_nil))) pe_int (nomark _)) (pe_df D_law_word hr (by decide) rfl (pa_cons (pv 0) pa_nil)) pe_str))
  (pss_one (ps_ret (pe_tup (pa_cons (pv 2) (pa_cons (pv 3) (pa_cons (pv 4) pa_nil))))))))), ?_⟩
    refine ⟨_, rfl, p, 5, m, rfl, hp, by omega, by decide, by decide, fun d o d0 d1 hp1 => ?_⟩
    refine ⟨d, rfl, by omega, by omega, fun D hD => ?_⟩
    have npl' := npl.symm
    have l1 : upd H p o ml = some (.lst (modesS.map V.str)) := by rw [upd_ne npl']; exact hl
    have k1 : Kp [p] H (upd H p o) := Kp.at_ (List.mem_singleton.mpr rfl)
    have pn : H p ≠ none := by
      obtain ⟨_, _, _, e, _⟩ := hp
      rw [e]
      exact nofun
    refine lc_strs (p := p) (gi := 5) (· ∈ modesS) d.toNat _ (by omega) hp1 hD (fun x m' G Q2 hq hm kq cont => ?_) (fun ms G lm okm hz hp3 kp3 => ?_)
    · have l2 := kq ml _ l1 (by simpa using npl')
      refine ⟨_, rfl, _, rfl, p, 8, m', rfl, hq, by omega, by decide, by decide, fun e o3 e0 e1 hp6 => ?_⟩
      obtain ⟨z, hz, hat⟩ := at_list (A := modesS) e0 e1
      exact ⟨ml, _, e, .str z, rfl, rfl, SqL.of (by rw [upd_ne npl']; exact l2), hat, cont z _ hz (hp6.up (by omega)) (Kp.at_ (List.mem_singleton.mpr rfl))⟩
    · have k3 := k1.trans kp3
      have nD : H D = none := by
        cases e : H D with
        | none => rfl
        | some u =>
          by_cases q : D = p
          · rw [q, upd_same] at hD
            cases hD
          · rw [upd_ne q, e] at hD
            cases hD
      have nDp : D ≠ p := fun q => pn (by rw [← q]; exact nD)
      refine ⟨_, rfl, p, 5, _, rfl, hp3, by omega, by decide, by decide, fun lv o3 v0 v1 hp4 => ?_⟩
      have k4 := k3.mutAt (p := p) (o := o3) (List.mem_singleton.mpr rfl)
      have z4 : upd G p o3 D = some (.lst (ms.map V.str)) := by rw [upd_ne nDp]; exact hz
      obtain ⟨H4, eH4⟩ : ∃ H4, H4 = upd G p o3 := ⟨_, rfl⟩
      rw [← eH4] at hp4 k4 z4
      rw [← eH4]
      refine ⟨fun σ' H' => ∃ w : Str, σ' = [some (.ref p), some (.ref ml), some (.ref D), some (.int lv), some (.str w), none] ∧ Kp [p] H4 H' ∧ PoolAt H' p (m + 58) ∧ (w = "" ∨ IsW w), ?_, ?_⟩
      · refine ⟨_, rfl, p, 2, _, rfl, hp4, by omega, by decide, by decide, fun b o5 b0 b1 hp5 => ?_⟩
        refine ⟨rfl, _, rfl, ite2 (fun c1 => ?_) (fun c1 => ?_)⟩
        · exact ⟨_, rfl, p, _, rfl, hp5, by omega, fun w H6 ww hp6 k6 => ⟨w, rfl, (Kp.at_ (List.mem_singleton.mpr rfl)).trans k6, hp6.up (by omega), .inr ww⟩⟩
        · exact ⟨"", rfl, Kp.at_ (List.mem_singleton.mpr rfl), hp5.up (by omega), .inl rfl⟩
      · rintro σ' H5 ⟨w, rfl, k5, hp5, hw⟩
        refine ⟨_, rfl, _, rfl, _, rfl, (by show 3 ≤ sizeLine; decide), fun t nt => ?_⟩
        obtain ⟨lv, rfl⟩ : ∃ j : Nat, lv = j := ⟨lv.toNat, by omega⟩
        have z5 := k5 _ _ z4 (by simpa using nDp)
        have nt0 : H t = none := by
          cases e : H t with
          | none => rfl
          | some u =>
            by_cases q : t = p
            · obtain ⟨_, _, _, e2, _⟩ := hp5
              rw [q, e2] at nt
              cases nt
            · rw [(k4.trans k5) t u e (by simpa using q)] at nt
              cases nt
        exact k _ t D ms lv w ((k4.trans k5).trans (Kp.new nt)) ((hp5.mv fun u e => Same.new nt _ _ e).up (by omega)) nt0 nD upd_same (Same.new nt _ _ z5) okm (by omega) (by omega) hw
end
end IC
namespace IC
open PySem PySem.Spec PyProof.Rows L2 TL NdefX
open LamX hiding takes0
/-! ### _law_call -/
abbrev qDeed : Str := "_law_call.<locals>._law_deed"
abbrev nmDeed : Nat → Nat → Str := fun _ _ => qDeed
def TabF (H : Hp) (F : Addr → Prop) (P : Addr) : Prop := ∃ ps : Array Value, H P = some (.tbl ps) ∧ ¬ F P ∧ TriplesOk ps.toList ∧ ∀ (pos : Pos) (cv : Value), codeAmong pos ps.toList = some cv → ∃ c, cv = .ref c ∧ H c = some (LamX.CodeO c qDeed) ∧ ¬ F c
theorem TabF.n {H : Hp} {F : Addr → Prop} {P : Addr} (h : TabF H F P) : TabN H P nmDeed := by
  obtain ⟨ps, h1, _, h2, h3⟩ := h
  exact ⟨ps, h1, h2, fun pos cv hc => let ⟨c, e1, e2, _⟩ := h3 pos cv hc; ⟨c, e1, e2⟩⟩
theorem TabF.of {H : Hp} {F : Addr → Prop} {P : Addr} (h : TabN H P nmDeed) (k : ∀ y o, H y = some o → ((∃ ps, o = .tbl ps) ∨ ∃ f, o = .ext f) → ¬ F y) : TabF H F P := by
  obtain ⟨ps, h1, h2, h3⟩ := h
  refine ⟨ps, h1, k _ _ h1 (.inl ⟨_, rfl⟩), h2, fun pos cv hc => ?_⟩
  obtain ⟨c, e1, e2⟩ := h3 pos cv hc
  exact ⟨c, e1, e2, k _ _ e2 (.inr ⟨_, rfl⟩)⟩
theorem TabF.chg {H H1 : Hp} {F F1 : Addr → Prop} {P : Addr} (h : TabF H F P) (cg : Chg F F1 H H1) : TabF H1 F1 P := by
  obtain ⟨ps, h1, n1, h2, h3⟩ := h
  refine ⟨ps, (cg.off h1 n1).1, (cg.off h1 n1).2, h2, fun pos cv hc => ?_⟩
  obtain ⟨c, e1, e2, n2⟩ := h3 pos cv hc
  exact ⟨c, e1, (cg.off e2 n2).1, (cg.off e2 n2).2⟩
/-- what _law_call tells: (a, b), where xs1 was noted -/
def Due13 (z w : Str) (xs1 : List V) (a : Str) (b : V) : Prop := (xs1 = [] ∧ b = .str z ∧ ((a = "missing" ∧ z = "must") ∨ (a = "present" ∧ (z = "never" ∨ z = "alone")))) ∨
  ∃ k, Noted [] k xs1 ∧ (((w ≠ "" ∨ 0 < k) ∧ a = "failed" ∧ b = .str (if w = "" then "unleft" else w)) ∨ (w = "" ∧ k = 0 ∧ ((a = "" ∧ b = .str "told") ∨ (a = "doomed" ∧ ∃ u : Option Str, (u = none ∨ u = some "wrong") ∧ b = oV u))))
@[irreducible] def spCall13 (c : Cs) (CW Pt : Addr) : Sp := fun vs H Q _ => ∃ (S : SG) (F : Addr → Prop) (n : Nat) (z : Str) (kt : Addr) (keys : List Str) (lc wy : Addr) (ms : List Str) (lv : Nat) (w : Str), vs = [.ref S.d, .str z, .ref wy, .ref kt, .ref lc] ∧ z ∈ modesS ∧ E13 c CW H F S n ∧ n ≤ 700 ∧ S.p.fl = 0 ∧ Calm S ∧ TabN H Pt nmDeed ∧
  (H kt = some (.tup (keys.map V.str)) ∧ ¬ FL F lc kt ∧ keys.length ≤ 100) ∧ (H lc = some (.lst []) ∧ ¬ F lc) ∧ WayF H (FL F lc) wy ms lv w ∧
  ∀ (H' : Hp) (F' : Addr → Prop) (S' : SG) (t : Addr) (xs1 : List V) (a : Str) (b : V), (∀ x o, H x = some o → (∀ ps, o ≠ .tbl ps) → ¬ FL F lc x → H' x = some o) → (∀ x, F' x → F x ∨ H x = none) → (∀ x, H' x = none → F x ∨ H x = none) → E13 c CW H' F' S' (n + 5) → S'.d = S.d → S'.p = S.p → S'.shp = S.shp → H' lc = some (.lst xs1) → ¬ F' lc → TabF H' (FL F' lc) Pt →
    H' t = some (.tup [.str a, b]) → Due13 z w xs1 a b → Q (.ref t) H'
theorem nB : ndefB (defScope s_law_call) (C8.fnScope s_law_call__law_deed) ["notes", "ways"] = true := by decide +kernel
theorem kG_cases {S : SG} {z : Str} (hz : z ∈ modesS) (cm : Calm S) : (kG S z = .miss → z = "must") ∧ (kG S z = .pres → z = "never" ∨ z = "alone") ∧ ∀ u, kG S z ≠ .doom u := by
  have hF : modesS.all (fun z => match entF z with | .miss => decide (z = "must") | .pres => false | .doom _ => false | _ => true) = true := by decide +kernel
  have hP : modesS.all (fun z => match entP none z with | .miss => false | .pres => decide (z = "never") || decide (z = "alone") | .doom _ => false | _ => true) = true := by decide +kernel
  have hF := List.all_eq_true.mp hF z hz
  have hP := List.all_eq_true.mp hP z hz
  unfold kG
  cases e : S.top with
  | none =>
    show (entF z = .miss → _) ∧ (entF z = .pres → _) ∧ ∀ u, entF z ≠ .doom u
    refine ⟨fun q => ?_, fun q => ?_, fun u q => ?_⟩
    · rw [q] at hF
      exact of_decide_eq_true hF
    · rw [q] at hF
      cases hF
    · rw [q] at hF
      cases hF
  | some T =>
    have hw : T.e.why = none := by
      have := cm.why
      rw [e] at this
      exact this
    show (entP T.e.why z = .miss → _) ∧ (entP T.e.why z = .pres → _) ∧ ∀ u, entP T.e.why z ≠ .doom u
    rw [hw]
    refine ⟨fun q => ?_, fun q => ?_, fun u q => ?_⟩
    · rw [q] at hP
      cases hP
    · rw [q] at hP
      simpa using hP
    · rw [q] at hP
      cases hP
theorem Wi13.of {c : Cs} {CW EF : Addr} {H : Hp} {F : Addr → Prop} {S : SG} {n : Nat} {lc : Addr} {xs : List V} {w z : Str} {Q : VK} {E : XK} {k : Ek} (hM : k = .miss → ErrQ c.M (fsM (.str z)) H E) (hP : k = .pres → ErrQ c.P (fsP (.str z)) H E) (hO : ∀ u, k ≠ .doom u) (fin : Fin13 c CW EF H F S n lc xs w Q E) : Wi13 c CW EF H F S n lc xs w z Q E k := by
  cases k with
  | miss => exact hM rfl
  | pres => exact hP rfl
  | doom u => exact absurd rfl (hO u)
  | noth => exact fin
  | dooms => exact fin
  | fresh => exact fin
  | inner => exact fin
theorem exmAny_two {K : PySem.W.Frag} {cls c : Value} {r : List Value} {b d : Bool} (h1 : PySem.W.exmOne K cls c = some b) (h2 : PySem.W.exmAny K cls r = some d) : PySem.W.exmAny K cls (c :: r) = some (b || d) := by
  unfold PySem.W.exmAny
  rw [h1, h2]
section
variable {P : Program} {w : World} {K : PySem.W.Frag} {mg : Str → Option Value} {base : Heap} {c : Cs} {CW CI EN EF Pt C1 : Addr}
theorem ok_call13 {f : Addr} {dV kV doc pm ct oc : Value} {an od : Option Addr} {osl : Array (Option Value)} (lk : K.lookup f = some ⟨oc, od, .func (PySem.W.fnOf "_law_call" "_law_call" (defArgs s_law_call) (defBody s_law_call) (defScope s_law_call) dV kV doc pm an (.ref C1) ct), osl⟩) (hcd : PySem.W.codeIn K (.ref C1) "_law_call" = true)
    (TB : LamX.TabB base mg C1 Pt) (B : DbTxt K mg c) (Z : Cl13 K mg c CI EN EF) (K_within : KDfS P w K mg base (L2.CX P w) 7 c.D "within" 2 ["keep"] (fun vs zs => vs ++ zs ++ [.bl true]) ["self", "mode", "deed", "keep", "commits"] ["notes", "ways"] (spWithin13 c CW EF)) :
    FnOk P w K mg base CX0 8 f (PySem.W.fnOf "_law_call" "_law_call" (defArgs s_law_call) (defBody s_law_call) (defScope s_law_call) dV kV doc pm an (.ref C1) ct) ["db", "mode", "ways", "listed", "notes"] (spCall13 c CW Pt) := by
  refine fn_of lk hcd sc_law_call (fun vs H Q E h => ?_) (fun A outer s H vs Q E hr h => ?_)
  · unfold spCall13 at h
    obtain ⟨S, F, n, z, kt, keys, lc, wy, ms, lv, w, rfl, _⟩ := h
    rfl
  · unfold spCall13 at h
    obtain ⟨S, F, n, z, kt, keys, lc, wy, ms, lv, wd, rfl, hz, hd, hn, hfl, cm, tn, ⟨ht, nt, lt⟩, ⟨hl, nl⟩, wf, k⟩ := h
    have hu := hu_of hr
    refine ⟨_, (pss_cons (ps_ndefMS (st := s_law_call__law_deed) (T := [(Pt, nmDeed)]) (nm := nmDeed) (i := 5) rfl TB rfl (List.mem_singleton.mpr rfl) rfl (fun p hp _ => by rw [List.mem_singleton.mp hp]) (ndef_free nB) rfl rfl rfl sc_law_call.nd rfl (Or.inl rfl) (Or.inr rfl))
  (pss_cons (ps_try_cl rfl rfl sc_law_call.nd takes0 (fun W pn xe tk _ => (pss_one (ps_set (i := 6) sc_law_call.nd rfl (Or.inl rfl) (pe_mdXKS (cl := cloFrom (cxOf CX0 P w K mg base ["db", "mode", "ways", "listed", "notes", "_law_deed", "told", "e"] "_law_call" (defScope s_law_call) f (.ref C1) A outer s H E).env.cells (C8.fnScope s_law_call__law_deed).names []) (wf := fun σ => [4, 2].map (slotAt σ)) K_within (fun _ _ _ _ I => cells_of I (Caps.made I.ok (ndef_free nB) (ndef_fr nB) rfl)) B.cD tk hr (by decide) (pv 0) (pa_cons (pv 1) (pa_cons (pv 5) pa_nil)) (pk_cons (pv 3) pk_nil)))))
  (.nm (i := 7) rfl rfl ⟨rfl, by decide, .inl Z.gF⟩ (fun a oe cls d pn hz hf => (pss_one (ps_ret (pe_tup (pa_cons pe_str (pa_cons (pe_xf Z.xF Z.nFw hz hf (pv 7)) pa_nil))))))
  (.nm (i := 7) rfl rfl ⟨rfl, by decide, .inl Z.gM⟩ (fun a oe cls d pn hz hf => (pss_one (ps_ret (pe_tup (pa_cons (pe_xf Z.xM Z.nMw hz hf (pv 7)) (pa_cons (pe_xf Z.xM Z.nMm hz hf (pv 7)) pa_nil))))))
  (.nm (i := 7) rfl rfl ⟨rfl, by decide, .inl Z.gP⟩ (fun a oe cls d pn hz hf => (pss_one (ps_ret (pe_tup (pa_cons (pe_xf Z.xP Z.nPw hz hf (pv 7)) (pa_cons (pe_xf Z.xP Z.nPm hz hf (pv 7)) pa_nil))))))
  (.nm (i := 7) rfl rfl ⟨rfl, by decide, .inl Z.gO⟩ (fun a oe cls d pn hz hf => (pss_one (ps_ret (pe_tup (pa_cons (pe_xf Z.xO Z.nOw hz hf (pv 7)) (pa_cons (pe_xf Z.xO Z.nOf hz hf (pv 7)) pa_nil))))))
  .nil)))))
  (pss_one (ps_ret (pe_tup (pa_cons pe_str (pa_cons (pv 6) pa_nil))))))), ?_⟩
    refine ⟨fun q hq => by rw [List.mem_singleton.mp hq]; exact tn, fun fn c' H1 eN bk tn1 nfn hfn hc' => ?_⟩
    have tn1 := tn1 _ (List.mem_singleton.mpr rfl)
    have kk : ∀ y o, H y = some o → noX o → H1 y = some o := fun y o q h => eN y o q h.1
    obtain ⟨F1, eF1⟩ : ∃ F1 : Addr → Prop, F1 = fun x => F x ∧ ∃ o, H x = some o ∧ noX o := ⟨_, rfl⟩
    have sub1 : ∀ x, F1 x → F x := fun x q => by rw [eF1] at q; exact q.1
    have hd1 : E13 c CW H1 F1 S n := by
      rw [eF1]
      refine hd.noX.mv fun x o f e => ?_
      obtain ⟨_, o2, q2, h2⟩ := f
      rw [e] at q2
      rw [Option.some.inj q2] at e ⊢
      exact kk x o2 e h2
    have nx1 : ∀ y o, H1 y = some o → ¬ noX o → ¬ F1 y := fun y o q h f => by
      rw [eF1] at f
      obtain ⟨_, o2, q2, h2⟩ := f
      have q3 := kk y o2 q2 h2
      rw [q] at q3
      rw [Option.some.inj q3] at h
      exact h h2
    have lcn : ∀ y o, H1 y = some o → (∀ xs, o ≠ .lst xs) → y ≠ lc := fun y o q h e => by
      rw [e, eN _ _ hl nofun] at q
      exact h _ (Option.some.inj q).symm
    have tb1 : TabF H1 (FL F1 lc) Pt := TabF.of tn1 fun y o e h f => by
      rcases f with f | f
      · refine nx1 y o e (fun q => ?_) f
        rcases h with ⟨ps, h⟩ | ⟨g, h⟩
        · exact q.1 _ h
        · exact q.2.1 _ h
      · refine lcn y o e (fun xs q => ?_) f
        rcases h with ⟨ps, h⟩ | ⟨g, h⟩
        · rw [h] at q; cases q
        · rw [h] at q; cases q
    have off1 : ∀ y o, H y = some o → (∀ ps, o ≠ .tbl ps) → ¬ FL F lc y → H1 y = some o ∧ ¬ FL F1 lc y := fun y o e h q => ⟨eN y o e h, fun g => q (g.imp (sub1 y) id)⟩
    have nfn1 : ¬ FL F1 lc fn := by
      rintro (f | f)
      · rw [eF1] at f
        obtain ⟨_, o, q, _⟩ := f
        rw [nfn] at q
        cases q
      · rw [f, hl] at nfn
        cases nfn
    have nc1 : ¬ FL F1 lc c' := by
      rintro (f | f)
      · exact nx1 _ _ hc' (fun q => q.2.1 _ rfl) f
      · exact lcn _ _ hc' (fun xs => nofun) f
    have wf1 : WayF H1 (FL F1 lc) wy ms lv wd := by
      obtain ⟨⟨ml, e1, e2, n1, n2⟩, a, b, d⟩ := wf
      exact ⟨⟨ml, (off1 _ _ e1 nofun n1).1, (off1 _ _ e2 nofun n2).1, (off1 _ _ e1 nofun n1).2, (off1 _ _ e2 nofun n2).2⟩, a, b, d⟩
    have fin : ∀ (H2 : Hp) (F2 : Addr → Prop) (S2 : SG) (xs1 : List V) (a : Str) (b : V), Chg (FL F1 lc) (FL F2 lc) H1 H2 → E13 c CW H2 F2 S2 (n + 5) → S2.d = S.d → S2.p = S.p → S2.shp = S.shp → H2 lc = some (.lst xs1) → ¬ F2 lc → Due13 z wd xs1 a b →
        ∀ t, H2 t = none → Q (.ref t) (upd H2 t (.tup [.str a, b])) := by
      intro H2 F2 S2 xs1 a b cg hd2 e1 e2 e3 l2 n2 du t nt
      have s2 := Same.new (o := .tup [.str a, b]) nt
      refine k _ F2 S2 t xs1 a b (fun x o e h q => s2 _ _ (cg.k x o (eN x o e h) fun g => q (g.imp (sub1 x) id))) (fun x f => ?_) (fun x e => ?_) (hd2.same s2) e1 e2 e3 (s2 _ _ l2) n2 ((tb1.chg cg).chg (Chg.same s2)) upd_same du
      · rcases cg.n x (.inl f) with (g | g) | g
        · exact .inl (sub1 x g)
        · exact absurd f (by rw [g]; exact n2)
        · exact .inr (bk x g)
      · cases q : H1 x with
        | none => exact .inr (bk x q)
        | some o =>
          have e2 : H2 x = none := by
            cases q2 : H2 x with
            | none => rfl
            | some u =>
              rw [s2 _ _ q2] at e
              cases e
          by_cases f : FL F1 lc x
          · rcases f with f | f
            · exact .inl (sub1 x f)
            · rw [f, l2] at e2
              cases e2
          · rw [cg.k x o q f] at e2
            cases e2
    have h1 := hd1.D.db.db.hd
    have ht1 := off1 _ _ ht nofun nt
    refine ⟨_, rfl, S.d, S.p.dx, _, rfl, h1, rfl, _, rfl, _, rfl, _, rfl, rfl, rfl, S, F1, n, z, fn, c', kt, keys, lc, wy, [], ms, lv, wd, rfl, rfl, hz, hd1, hn, cm.wrO, by rw [hfl]; omega, ⟨ht1.1, ht1.2, lt⟩, ⟨hfn, nfn1, hc', nc1⟩, ⟨eN _ _ hl nofun, fun q => nl (sub1 _ q), Nat.zero_le _⟩, wf1, ?_⟩
    obtain ⟨kM, kP, kO⟩ := kG_cases hz cm
    have l1 := eN _ _ hl nofun
    have nl1 : ¬ F1 lc := fun q => nl (sub1 _ q)
    have e0 : ∀ {a : Str} {x : Addr} {H' : Hp} {fs : List (Str × V)}, Same H1 H' → H' x = some (.xd fs) → ((a = "missing" ∧ z = "must") ∨ (a = "present" ∧ (z = "never" ∨ z = "alone"))) → ∀ t, H' t = none → Q (.ref t) (upd H' t (.tup [.str a, .str z])) := fun {a x H' fs} s ex h t nt =>
      fin H' F1 S [] a (.str z) (Chg.same s) ((hd1.same s).up (by omega)) rfl rfl rfl (s _ _ l1) nl1 (.inl ⟨rfl, rfl, h⟩) t nt
    refine Wi13.of (fun e x H' s ex => ?_) (fun e x H' s ex => ?_) kO (fun H3 F3 S3 k3 xs1 cg hd3 n3 d3 p3 b3 s3 l3 nt3 => ⟨fun hw hk => ⟨?_, fun u hu x H' s ex => ?_⟩, fun hor x hx => ?_⟩)
    · exact ⟨false, Z.mf, nofun, fun _ => ⟨true, Z.mm, fun _ e1 ne => ⟨_, rfl, rfl, rfl, x, _, _, rfl, ex, rfl, _, rfl, rfl, rfl, x, _, _, rfl, ex, rfl, (by show 2 ≤ sizeLine; decide), e0 s ex (.inl ⟨rfl, kM e⟩)⟩, nofun⟩⟩
    · exact ⟨false, Z.pf, nofun, fun _ => ⟨false, Z.pm, nofun, fun _ => ⟨true, Z.pp, fun _ e1 ne => ⟨_, rfl, rfl, rfl, x, _, _, rfl, ex, rfl, _, rfl, rfl, rfl, x, _, _, rfl, ex, rfl, (by show 2 ≤ sizeLine; decide), e0 s ex (.inr ⟨rfl, kP e⟩)⟩, nofun⟩⟩⟩
    · exact ⟨_, rfl, (by show 2 ≤ sizeLine; decide), fin H3 F3 S3 xs1 "" (.str "told") cg hd3 d3 p3 s3 l3 n3 (.inr ⟨k3, nt3, .inr ⟨hw, hk, .inl ⟨rfl, rfl⟩⟩⟩)⟩
    · exact ⟨false, Z.of, nofun, fun _ => ⟨false, Z.om, nofun, fun _ => ⟨false, Z.op, nofun, fun _ => ⟨true, Z.oo, fun _ e1 ne => ⟨_, rfl, rfl, rfl, x, _, _, rfl, ex, rfl, _, rfl, rfl, rfl, x, _, _, rfl, ex, rfl, (by show 2 ≤ sizeLine; decide), fin H' F3 S3 xs1 "doomed" (oV u) (cg.trans (Chg.same s)) (hd3.same s) d3 p3 s3 (s _ _ l3) n3 (.inr ⟨k3, nt3, .inr ⟨hw, hk, .inr ⟨rfl, u, hu, rfl⟩⟩⟩)⟩, nofun⟩⟩⟩⟩
    · exact ⟨true, Z.ff, fun _ e1 ne => ⟨_, rfl, rfl, rfl, x, _, _, rfl, hx, rfl, (by show 2 ≤ sizeLine; decide), fin H3 F3 S3 xs1 "failed" _ cg hd3 d3 p3 s3 l3 n3 (.inr ⟨k3, nt3, .inl ⟨hor, rfl, rfl⟩⟩)⟩, nofun⟩
end
end IC
namespace IC
open PySem PySem.Spec PyProof.Rows L2 TL NdefX
theorem TabF.kp {H H1 : Hp} {F : Addr → Prop} {P p : Addr} {xs : List V} (h : TabF H F P) (hp : H p = some (.lst xs)) (kp : Kp [p] H H1) : TabF H1 F P := by
  have k : ∀ y o, H y = some o → (∀ xs, o ≠ .lst xs) → H1 y = some o := fun y o e n => kp y o e (by
    have : y ≠ p := fun q => n xs (by rw [q, hp] at e; exact (Option.some.inj e).symm)
    simpa using this)
  obtain ⟨ps, h1, n1, h2, h3⟩ := h
  refine ⟨ps, k _ _ h1 nofun, n1, h2, fun pos cv hc => ?_⟩
  obtain ⟨c, e1, e2, n2⟩ := h3 pos cv hc
  exact ⟨c, e1, k _ _ e2 (fun xs => nofun), n2⟩
/-- the law's state within a turn -/
structure L13 (c : Cs) (CW Pt : Addr) (H0 H : Hp) (F : Addr → Prop) (p lc d : Addr) (S : SG) (n : Nat) (m : Int) (xs : List V) : Prop where
  k : ∀ y o, H0 y = some o → y ≠ p → (∀ ps, o ≠ .tbl ps) → H y = some o
  kt : ∀ y, H y = none → H0 y = none
  E : E13 c CW H F S n
  nw : ∀ y, F y → H0 y = none
  po : PoolAt H p m
  tb : TabF H (FL F lc) Pt
  h0 : H0 p ≠ none
  ed : S.d = d
  ep : S.p.fl = 0
  hl : H lc = some (.lst xs)
  nl : ¬ F lc
  lp : lc ≠ p
  l0 : H0 lc = none
section
variable {c : Cs} {CW Pt : Addr} {H0 H H' : Hp} {F F' : Addr → Prop} {p d lc : Addr} {S S' : SG} {n n' : Nat} {m m' : Int} {xs ys : List V}
theorem L13.np (A : L13 c CW Pt H0 H F p lc d S n m xs) : ¬ F p := fun f => A.h0 (A.nw p f)
theorem L13.npl (A : L13 c CW Pt H0 H F p lc d S n m xs) : ¬ FL F lc p := fun f => f.elim A.np fun e => A.lp e.symm
theorem L13.kp (A : L13 c CW Pt H0 H F p lc d S n m xs) (kp : Kp [p] H H') (po : PoolAt H' p m') : L13 c CW Pt H0 H' F p lc d S n m' xs := by
  obtain ⟨a1, a2, a3, ep, _⟩ := id A.po
  refine ⟨fun y o e h1 h2 => kp y o (A.k y o e h1 h2) (by simpa using h1), fun y e => A.kt y ?_, A.E.mv fun x u f e => kp x u e (by simpa using fun z => A.np (by rw [← z]; exact f)), A.nw, po, A.tb.kp ep kp, A.h0, A.ed, A.ep, kp _ _ A.hl (by simpa using A.lp), A.nl, A.lp, A.l0⟩
  cases q : H y with
  | none => rfl
  | some o =>
    by_cases h : y = p
    · obtain ⟨_, _, _, e2, _⟩ := id po
      rw [h, e2] at e
      cases e
    · rw [kp y o q (by simpa using h)] at e
      cases e
theorem L13.same (A : L13 c CW Pt H0 H F p lc d S n m xs) (s : Same H H') : L13 c CW Pt H0 H' F p lc d S n m xs := A.kp (Kp.same s) (A.po.mv fun o e => s _ _ e)
theorem L13.up (A : L13 c CW Pt H0 H F p lc d S n m xs) (h1 : n ≤ n') (h2 : m ≤ m') : L13 c CW Pt H0 H F p lc d S n' m' xs := { A with E := A.E.up h1, po := A.po.up h2 }
theorem L13.grow (A : L13 c CW Pt H0 H F p lc d S n m xs) (cg : Chg F F' H H') (E : E13 c CW H' F' S' n') (ed : S'.d = S.d) (ep : S'.p = S.p) : L13 c CW Pt H0 H' F' p lc d S' n' m xs := by
  obtain ⟨a1, a2, a3, e, _⟩ := id A.po
  refine ⟨fun y o e h1 h2 => cg.k y o (A.k y o e h1 h2) fun f => ?_, fun y e => ?_, E, fun y f => ?_, A.po.mv fun o e => (cg.off e A.np).1, A.tb.chg (cg.fl lc), A.h0, ed.trans A.ed, by rw [ep]; exact A.ep, (cg.off A.hl A.nl).1, (cg.off A.hl A.nl).2, A.lp, A.l0⟩
  · rw [A.nw y f] at e
    cases e
  · by_cases f : F y
    · exact A.nw y f
    · refine A.kt y ?_
      cases q : H y with
      | none => rfl
      | some o =>
        rw [cg.k y o q f] at e
        cases e
  · rcases cg.n y f with q | q
    · exact A.nw y q
    · exact A.kt y q
/-- _law_call was run -/
theorem L13.call (A : L13 c CW Pt H0 H F p lc d S n m xs) (k : ∀ x o, H x = some o → (∀ ps, o ≠ .tbl ps) → ¬ FL F lc x → H' x = some o) (nw : ∀ x, F' x → F x ∨ H x = none) (kt : ∀ x, H' x = none → F x ∨ H x = none) (E : E13 c CW H' F' S' n') (ed : S'.d = S.d) (ep : S'.p = S.p) (hl : H' lc = some (.lst ys)) (nl : ¬ F' lc) (tb : TabF H' (FL F' lc) Pt) : L13 c CW Pt H0 H' F' p lc d S' n' m ys := by
  obtain ⟨a1, a2, a3, e, _⟩ := id A.po
  refine ⟨fun y o e h1 h2 => k y o (A.k y o e h1 h2) h2 fun f => ?_, fun y e => (kt y e).elim (A.nw y) (A.kt y), E, fun y f => (nw y f).elim (A.nw y) (A.kt y), A.po.mv fun o q => ?_, tb, A.h0, ed.trans A.ed, by rw [ep]; exact A.ep, hl, nl, A.lp, A.l0⟩
  · rcases f with f | f
    · rw [A.nw y f] at e
      cases e
    · rw [f, A.l0] at e
      cases e
  · rw [e] at q
    rw [← Option.some.inj q]
    exact k p _ e nofun A.npl
/-- what the law asks of a database -/
def fiveD (S : SG) : PyData := .list [.bool S.top.isSome, .int (eT S.top).length, .int S.bl.length, .list [], .list []]
structure Five (H : Hp) (F : Addr → Prop) (lc a : Addr) (S : SG) : Prop where
  ex : ∃ l1 l2, H a = some (.lst [.bl S.top.isSome, .int (eT S.top).length, .int S.bl.length, .ref l1, .ref l2]) ∧ H l1 = some (.lst []) ∧ H l2 = some (.lst []) ∧ ¬ FL F lc a ∧ ¬ FL F lc l1 ∧ ¬ FL F lc l2
theorem Five.dp {K : PySem.W.Frag} {a : Addr} (h : Five H F lc a S) : Dp K H (.ref a) (fiveD S) := by
  obtain ⟨l1, l2, h1, h2, h3, _⟩ := h
  exact .lst (SqL.of h1) (.cons (.bl _) (.cons (.int _) (.cons (.int _) (.cons (.lst (SqL.of h2) .nil) (.cons (.lst (SqL.of h3) .nil) .nil)))))
theorem Five.same {a : Addr} (h : Five H F lc a S) (s : Same H H') : Five H' F lc a S := by
  obtain ⟨l1, l2, h1, h2, h3, n⟩ := h
  exact ⟨l1, l2, s _ _ h1, s _ _ h2, s _ _ h3, n⟩
theorem fiveD_sh (S : SG) : SeqAt.shaped (fiveD S) = true := shaped_list (xs := [.bool S.top.isSome, .int (eT S.top).length, .int S.bl.length, .list [], .list []]) fun x hx => by
  simp only [List.mem_cons, List.not_mem_nil, or_false] at hx
  rcases hx with rfl | rfl | rfl | rfl | rfl
  · exact ⟨rfl, Nat.zero_le _⟩
  · exact ⟨rfl, Nat.zero_le _⟩
  · exact ⟨rfl, Nat.zero_le _⟩
  · exact ⟨rfl, by decide⟩
  · exact ⟨rfl, by decide⟩
theorem E13.five (E : E13 c CW H F S n) (E' : E13 c CW H' F' S' n') (e : S'.shp = S.shp) : fiveD S' = fiveD S := by
  have e1 : S'.top.isSome = S.top.isSome := by rw [E.open, E'.open, e]
  have e2 : (eT S'.top).length = (eT S.top).length := congrArg (fun z : Shp => z.2.headD 0) e
  have e3 : S'.bl.length = S.bl.length := by rw [E.depth, E'.depth, e]
  unfold fiveD
  rw [e1, e2, e3]
theorem five_ne {K : PySem.W.Frag} {a b : Addr} {F1 F2 : Addr → Prop} {lc1 lc2 : Addr} {Q : VK} (h1 : Five H F1 lc1 a S') (h2 : Five H F2 lc2 b S) (e : fiveD S' = fiveD S) (q : Q (.bl false) H) : rNeD K (.ref a) (.ref b) H Q := by
  refine ⟨fiveD S', fiveD S, h1.dp, h2.dp, fiveD_sh _, fiveD_sh _, ?_⟩
  rw [e, SeqAt.eqv_refl _ (SeqAt.canLay_of_shaped (fiveD_sh S))]
  exact q
end
/-! ### pairs of a text and a datum -/
theorem okc_lit {z : Str} (h : (tl z).all (fun c => decide (c < 1114112)) = true) : ∀ c ∈ tl z, Okc c := fun c hc => (show c < 1114112 from of_decide_eq_true (List.all_eq_true.mp h c hc))
theorem okc_w {z : Str} (h : IsW z) : ∀ c ∈ tl z, Okc c := fun c hc => by
  have := h.2.2 c hc
  show c < 1114112
  have := this.2
  omega
theorem okc_m {z : Str} (h : z ∈ modesS) : ∀ c ∈ tl z, Okc c := by
  have q : modesS.all (fun z => (tl z).all fun c => decide (c < 1114112)) = true := by decide +kernel
  exact okc_lit (List.all_eq_true.mp q z h)
theorem pair_sh {a : Str} {e : PyData} (ha : ∀ c ∈ tl a, Okc c) (h : PyData.canLay0 e = true ∧ PyData.depth e ≤ 2) : SeqAt.shaped (.tuple [.str a, e]) = true := shaped_list (xs := [.str a, e]) fun x hx => by
  rcases List.mem_cons.mp hx with rfl | hx
  · exact ⟨strOk_of ha, Nat.zero_le _⟩
  · rw [List.mem_singleton.mp hx]
    exact ⟨h.1, by have := h.2; omega⟩
theorem pair_dp {K : PySem.W.Frag} {H : Hp} {t : Addr} {a : Str} {b : V} {e : PyData} (ht : H t = some (.tup [.str a, b])) (hb : Dp K H b e) : Dp K H (.ref t) (.tuple [.str a, e]) := .tup (SqT.of ht) (.cons (.str _) (.cons hb .nil))
end IC
namespace IC
open PySem PySem.Spec PyProof.Rows L2 TL NdefX
theorem TabF.start {H H1 : Hp} {F : Addr → Prop} {P : Addr} (h : TabN H P nmDeed) (s : Same H H1) (k : ∀ y, F y → H y = none) : TabF H1 F P := by
  obtain ⟨ps, h1, h2, h3⟩ := h
  have nn : ∀ y o, H y = some o → ¬ F y := fun y o e f => by
    rw [k y f] at e
    cases e
  refine ⟨ps, s _ _ h1, nn _ _ h1, h2, fun pos cv hc => ?_⟩
  obtain ⟨c, e1, e2⟩ := h3 pos cv hc
  exact ⟨c, e1, s _ _ e2, nn _ _ e2⟩
theorem room65 {k : Nat} {A : Around} (r : Room (k + 1) A) : A.units + 65 < cLine := by have := r.un; omega
def spLaw13 (K : PySem.W.Frag) (Pt : Addr) : Sp := fun vs H Q _ => ∃ (a : Addr) (ns : List Int), vs = [.ref a] ∧ SqL K H a (ns.map V.int) ∧ ns.length ≤ 63 ∧ TabN H Pt nmDeed ∧ ∀ H', Q (.bl true) H'
/-- all but the tables stands as it stood -/
def Kt (H H' : Hp) : Prop := ∀ y o, H y = some o → (∀ ps, o ≠ .tbl ps) → H' y = some o
theorem Kt.seq {K : PySem.W.Frag} {H H' : Hp} {a : Addr} {xs : List V} (k : Kt H H') (h : SqL K H a xs) : SqL K H' a xs := by
  rcases h with h | h
  · refine .inl ?_
    rcases h with h | ⟨o, h⟩
    · exact .inl (k _ _ h nofun)
    · exact .inr ⟨o, k _ _ h nofun⟩
  · exact .inr h
theorem E13.nl {c : Cs} {CW : Addr} {H : Hp} {F : Addr → Prop} {S : SG} {n : Nat} (E : E13 c CW H F S n) {a lc : Addr} {o : HO} (hl : H lc = some o) (h : H a = none) : ¬ FL F lc a := fun f => by
  rcases f with f | f
  · exact E.D.al a f h
  · rw [f, hl] at h
    cases h
theorem nil_of {ys : List Str} {g : Str → Bool} (h : ∀ z, z ∈ ys ↔ g z = true) (e : ∀ z, g z = false) : ys = [] := by
  cases ys with
  | nil => rfl
  | cons y ys =>
    have := (h y).mp List.mem_cons_self
    rw [e y] at this
    cases this
theorem Five.kp {H H' : Hp} {F : Addr → Prop} {lc a p : Addr} {S : SG} {m : Int} (h : Five H F lc a S) (po : PoolAt H p m) (kp : Kp [p] H H') : Five H' F lc a S := by
  obtain ⟨l1, l2, h1, h2, h3, n⟩ := h
  obtain ⟨a1, a2, a3, e, _⟩ := po
  have ne : ∀ {y : Addr} {xs : List V}, H y = some (.lst xs) → xs ≠ [.int a1, .int a2, .int a3] → y ∉ [p] := fun {y xs} q nx z => nx (by
    rw [List.mem_singleton.mp z, e] at q
    injection q with q
    injection q with q
    exact q.symm)
  exact ⟨l1, l2, kp _ _ h1 (ne h1 (by simp)), kp _ _ h2 (ne h2 (by simp)), kp _ _ h3 (ne h3 (by simp)), n⟩
theorem WayF.kp {H H' : Hp} {F : Addr → Prop} {wy p : Addr} {ms : List Str} {lv : Nat} {w : Str} {m : Int} (h : WayF H F wy ms lv w) (po : PoolAt H p m) (kp : Kp [p] H H') : WayF H' F wy ms lv w := by
  obtain ⟨⟨ml, e1, e2, n⟩, r1, r2, r3⟩ := h
  obtain ⟨a1, a2, a3, e, _⟩ := po
  refine ⟨⟨ml, kp _ _ e1 fun z => ?_, kp _ _ e2 fun z => ?_, n⟩, r1, r2, r3⟩
  · rw [List.mem_singleton.mp z, e] at e1
    cases e1
  · rw [List.mem_singleton.mp z, e] at e2
    injection e2 with e2
    injection e2 with e2
    cases ms with
    | nil => cases e2
    | cons y ys =>
      rw [List.map_cons] at e2
      injection e2 with e2 _
      cases e2
theorem WayF.same {H H' : Hp} {F : Addr → Prop} {wy : Addr} {ms : List Str} {lv : Nat} {w : Str} (h : WayF H F wy ms lv w) (s : Same H H') : WayF H' F wy ms lv w := h.chg (Chg.same s)
section
variable {P : Program} {w : World} {K : PySem.W.Frag} {mg : Str → Option Value} {base : Heap} {c : Cs} {CW EB EN ER Pt : Addr}
theorem ok_law13 {f : Addr} {fd : FuncData} (F : Fun K "law" "law" s_law f fd) (T : Bn mg) (B : DbTxt K mg c) (C_D : CDf P w K mg base 1 "Database" c.D (spDbG c CW)) (D_law_pool : Df P w K mg base 1 "_law_pool" ["script", "at"] (spPool K)) (D_law_draw : Df P w K mg base 1 "_law_draw" ["pool", "many"] spDraw)
    (D_law_enter : Df P w K mg base 5 "_law_enter" ["db", "mode"] (spEnter13 c CW)) (D_law_bare : Df P w K mg base 5 "_law_bare" ["db"] (spBare13 c CW)) (D_law_ways : Df P w K mg base 3 "_law_ways" ["pool", "modes"] (spWays13 K)) (D_law_call : Df P w K mg base 8 "_law_call" ["db", "mode", "ways", "listed", "notes"] (spCall13 c CW Pt))
    (P_is_open : PDf P w K mg base 1 c.D "is_open" (spLookG c CW 0 fun S _ v => v = .bl S.top.isSome)) (P_levels : PDf P w K mg base 1 c.D "levels" (spLookG c CW 0 fun S _ v => v = .int (eT S.top).length)) (P_depth : PDf P w K mg base 1 c.D "depth" (spLookG c CW 0 fun S _ v => v = .int S.bl.length))
    (M_held : MDf P w K mg base CX0 3 c.D "held_records" ["self"] [] (spRecsG c CW SG.mine)) (M_outer : MDf P w K mg base CX0 3 c.D "outer_records" ["self"] [] (spRecsG c CW SG.wait)) (M_leave1 : MDf P w K mg base (L2.CX P w) 4 c.D "leave" ["self", "error", "commits"] [.bl true] (spLeaveG K c CW EB EN ER)) :
    FnOk P w K mg base CX0 9 f fd ["script"] (spLaw13 K Pt) := by
  refine F.ok sc_law (fun vs H Q E h => ?_) (fun cdv A outer s H vs Q E hr h => ?_)
  · obtain ⟨a, ns, rfl, _⟩ := h
    rfl
  · obtain ⟨a, ns, rfl, hS, hlen, tn, k⟩ := h
    refine ⟨_, (pss_cons (ps_set (i := 1) sc_law.nd rfl (Or.inl rfl) (pe_lst (pa_cons pe_str (pa_cons pe_str (pa_cons pe_str (pa_cons pe_str (pa_cons pe_str (pa_cons pe_str (pa_cons pe_str (pa_cons pe_str pa_nil))))))))))
  (pss_cons (ps_for PassesOwn.never rfl (pi_range1 rfl T.range (pa_cons (pe_callB (call_max2 rfl) (by rfl) T.max PyProof.Rows.boot_max (pa_cons pe_int (pa_cons (pe_callB (call_min2 rfl) (by rfl) T.min PyProof.Rows.boot_min (pa_cons pe_int (pa_cons (pe_callB call_len_seq (by rfl) T.len PySem.boot_len (pa_cons (pv 0) pa_nil)) pa_nil))) pa_nil))) pa_nil)) (pg_name (i := 2) sc_law.nd rfl (Or.inl rfl))
  (pss_cons (ps_set (i := 3) sc_law.nd rfl (Or.inl rfl) (pe_df D_law_pool hr (by decide) rfl (pa_cons (pv 0) (pa_cons (pv 2) pa_nil))))
  (pss_cons (ps_par (i := 4) (j := 5) (by rfl) sc_law.nd rfl rfl (by decide) rfl rfl (pa_cons (pe_mk0 C_D hr (by decide) rfl) (pa_cons (pe_lst pa_nil) pa_nil)) (by rfl))
  (pss_cons (ps_for PassesOwn.never rfl (pi_range1 rfl T.range (pa_cons (pe_df D_law_draw hr (by decide) rfl (pa_cons (pv 3) (pa_cons pe_int pa_nil))) pa_nil)) (pg_name (i := 6) sc_law.nd rfl (Or.inl rfl))
  (pss_one (ps_expr (pe_df D_law_enter hr (by decide) rfl (pa_cons (pv 4) (pa_cons (pe_ix ix_list (pv 1) (pe_df D_law_draw hr (by decide) rfl (pa_cons (pv 3) (pa_cons pe_int pa_nil))) (fun _ _ => rfl)) pa_nil))))))
  (pss_cons (ps_set (i := 7) sc_law.nd rfl (Or.inl rfl) (pe_lst (pa_cons (pe_pd P_is_open B.cD hr (by decide) (pv 4)) (pa_cons (pe_pd P_levels B.cD hr (by decide) (pv 4)) (pa_cons (pe_pd P_depth B.cD hr (by decide) (pv 4)) (pa_cons (pe_md0 M_held B.cD hr (by decide) (pv 4)) (pa_cons (pe_md0 M_outer B.cD hr (by decide) (pv 4)) pa_nil)))))))
  (pss_cons (ps_par (i := 8) (j := 9) (by rfl) sc_law.nd rfl rfl (by decide) rfl rfl (pa_cons (pe_df D_law_ways hr (by decide) rfl (pa_cons (pv 3) (pa_cons (pv 1) pa_nil))) (pa_cons (pe_ix ix_list (pv 1) (pe_df D_law_draw hr (by decide) rfl (pa_cons (pv 3) (pa_cons pe_int pa_nil))) (fun _ _ => rfl)) pa_nil)) (by rfl))
  (Evl.pss_cut (ps_set (i := 10) sc_law.nd rfl (Or.inl rfl) (pe_ix ix_list (pe_lst (pa_cons (pe_tup pa_nil) (pa_cons (pe_tup (pa_cons pe_str pa_nil)) (pa_cons (pe_ifExp (pt_cmpR op_ne (pe_ix ix_tup (pv 8) pe_int (fun _ _ => rfl)) pe_str (nomark _)) (pe_tup (pa_cons (pe_ix ix_tup (pv 8) pe_int (fun _ _ => rfl)) pa_nil)) (pe_tup pa_nil)) pa_nil)))) (pe_df D_law_draw hr (by decide) rfl (pa_cons (pv 3) (pa_cons pe_int pa_nil))) (fun _ _ => rfl)))
  (pss_cons (ps_set (i := 11) sc_law.nd rfl (Or.inl rfl) (pe_df D_law_call hr (by decide) rfl (pa_cons (pv 4) (pa_cons (pv 9) (pa_cons (pv 8) (pa_cons (pv 10) (pa_cons (pv 5) pa_nil)))))))
  (pss_cons (ps_if (pt_cmpR (op_neD hr.units) (pe_lst (pa_cons (pe_pd P_is_open B.cD hr (by decide) (pv 4)) (pa_cons (pe_pd P_levels B.cD hr (by decide) (pv 4)) (pa_cons (pe_pd P_depth B.cD hr (by decide) (pv 4)) (pa_cons (pe_md0 M_held B.cD hr (by decide) (pv 4)) (pa_cons (pe_md0 M_outer B.cD hr (by decide) (pv 4)) pa_nil)))))) (pv 7) (nomark _))
  (pss_one (ps_ret pe_bl))
  pss_nil)
  (Evl.pss_cut (ps_if (pt_cmpR (op_eqD hr.units) (pv 5) (pe_lst pa_nil) (nomark _))
  (pss_one (ps_if (pt_cmpR (op_notInD (room65 hr)) (pv 11) (pe_lst (pa_cons (pe_tup (pa_cons pe_str (pa_cons pe_str pa_nil))) (pa_cons (pe_tup (pa_cons pe_str (pa_cons pe_str pa_nil))) (pa_cons (pe_tup (pa_cons pe_str (pa_cons pe_str pa_nil))) pa_nil)))) (by rfl))
  (pss_one (ps_ret pe_bl))
  pss_nil))
  (pss_one (ps_if (pt_cmpR op_in_seq pe_bl (pe_slice sl_list (pv 5) (po_some pe_int) po_none) (by rfl))
  (pss_one (ps_ret pe_bl))
  (pss_one (ps_if (PW.pt (pw_or (pt_cmpR op_ne (pe_ix ix_tup (pv 8) pe_int (fun _ _ => rfl)) pe_str (nomark _)) (pw_or1 (pt_cmpR op_gt (pe_ix ix_list (pv 5) pe_int (fun _ _ => rfl)) pe_int (nomark _)))))
  (pss_one (ps_if (pt_cmpR (op_neD hr.units) (pv 11) (pe_tup (pa_cons pe_str (pa_cons (pe_ifExp (pt_cmpR op_ne (pe_ix ix_tup (pv 8) pe_int (fun _ _ => rfl)) pe_str (nomark _)) (pe_ix ix_tup (pv 8) pe_int (fun _ _ => rfl)) pe_str) pa_nil))) (nomark _))
  (pss_one (ps_ret pe_bl))
  pss_nil))
  (pss_one (ps_if (PW.pt (pw_and (pt_cmpR (op_neD hr.units) (pv 11) (pe_tup (pa_cons pe_str (pa_cons pe_str pa_nil))) (nomark _)) (pw_and1 (pt_cmpR op_ne (pe_ix ix_tup (pv 11) pe_int (fun _ _ => rfl)) pe_str (nomark _)))))
  (pss_one (ps_ret pe_bl))
  pss_nil)))))))
  (pss_cons (ps_while PassesOwn.never (pt_cmpR op_gt (pe_pd P_depth B.cD hr (by decide) (pv 4)) pe_int (nomark _))
  (pss_one (ps_expr (pe_mdX M_leave1 B.cD takes0 hr (by decide) (pv 4) (pa_cons pe_str pa_nil)))))
  (pss_one (ps_if (PW.pt (pw_or (pt_not (pt_val (pe_df D_law_bare hr (by decide) rfl (pa_cons (pv 4) pa_nil)))) (pw_or1 (pt_val (pe_pd P_is_open B.cD hr (by decide) (pv 4))))))
  (pss_one (ps_ret pe_bl))
  pss_nil)))))))))))))
  (pss_one (ps_ret pe_bl)))), ?_⟩
    refine ⟨(by show 8 ≤ sizeLine; decide), fun ml nml => ?_⟩
    generalize eHm : upd H ml _ = Hm
    have hmm : Hm ml = some (.lst (modesS.map V.str)) := by rw [← eHm]; exact upd_same
    have sm : Same H Hm := by rw [← eHm]; exact Same.new nml
    have tn := tn.ext sm
    have hS : SqL K Hm a (ns.map V.int) := Kt.seq (fun y o e _ => sm y o e) hS
    clear eHm sm nml
    have hlm : (ns.map V.int).length = ns.length := List.length_map ..
    obtain ⟨N, hN, hN2⟩ : ∃ N : Int, N = (if (if ((ns.map V.int).length : Int) < 10 then ((ns.map V.int).length : Int) else 10) > 1 then (if ((ns.map V.int).length : Int) < 10 then ((ns.map V.int).length : Int) else 10) else 1) ∧ 0 ≤ N ∧ N ≤ 10 := by
      refine ⟨_, rfl, ?_, ?_⟩ <;> (repeat' split) <;> omega
    refine ⟨_, rfl, a, _, rfl, .inl hS, _, _, rfl, _, _, rfl, N, (by rw [hN]), by omega, by omega, for_range (lo := 0) (n := N.toNat) (fun i σ H1 => ∃ v2 v3 v4 v5 v6 v7 v8 v9 v10 v11, σ = [some (.ref a), some (.ref ml), v2, v3, v4, v5, v6, v7, v8, v9, v10, v11] ∧ Kt Hm H1 ∧ TabN H1 Pt nmDeed) ⟨_, _, _, _, _, _, _, _, _, _, rfl, fun _ _ e _ => e, tn⟩ ?_ ?_⟩
    · rintro i σ H1 hi ⟨v2, v3, v4, v5, v6, v7, v8, v9, v10, v11, rfl, kt, t1⟩
      refine ⟨_, rfl, _, rfl, a, ns, i, (by rw [Int.zero_add]; rfl), kt.seq hS, by omega, fun p o hp hp1 => ?_⟩
      have s1 := Same.new (o := o) hp
      have t1 := t1.ext s1
      obtain ⟨H0, eH0⟩ : ∃ H0, H0 = upd H1 p o := ⟨_, rfl⟩
      have k0 : Kt Hm H0 := by rw [eH0]; exact fun y u e n => s1 _ _ (kt y u e n)
      rw [← eH0] at hp1 t1
      rw [← eH0]
      have hp0 : ∀ y u, Hm y = some u → (∀ ps, u ≠ .tbl ps) → y ≠ p := fun y u e n => ne_of_none (kt y u e n) hp
      clear eH0 s1
      intro x dx nx nd ne
      refine ⟨x, dx, rfl, upd_same, fun H2 F2 q kp nf fl0 db => ⟨rfl, ?_⟩⟩
      refine ⟨Nat.zero_le _, fun lc nlc => ⟨_, _, rfl, ?_⟩⟩
      have nx0 : H0 x = none := nx
      have sx : Same H0 H2 := fun b u e => kp b u (by rw [upd_ne (ne_of_none e nx), upd_ne (ne_of_none e nd)]; exact e) (by simpa using ne_of_none e nx)
      have sl := Same.new (o := .lst []) nlc
      have s3 : Same H0 (upd H2 lc (.lst [])) := sx.trans sl
      have nf1 : ∀ y, F2 y → H0 y = none := fun y f => by
        rcases nf y f with z | z
        · rw [z]; exact nx0
        · exact (none_of (none_of z).2).2
      have lc0 : H0 lc = none := sx.free nlc
      have D0 : Dk c CW H2 (tgt F2 H2) ⟨x, q, [], [], [], [], none, [], []⟩ [] 0 := ⟨db.tight, ⟨rfl, List.nodup_nil, nofun, nofun⟩, ⟨Nat.zero_le _, Nat.zero_le _, Nat.zero_le _, Nat.zero_le _, nofun⟩, fun y f => f.2⟩
      obtain ⟨H3, eH3⟩ : ∃ H3, H3 = upd H2 lc (.lst []) := ⟨_, rfl⟩
      have A0 : L13 c CW Pt H0 H3 (tgt F2 H2) p lc x ⟨x, q, [], [], [], [], none, [], []⟩ 0 0 [] := by
        rw [eH3]
        refine ⟨fun y o e _ _ => s3 y o e, fun y e => s3.free e, ⟨D0.same sl, rfl⟩, fun y f => nf1 y f.1, hp1.mv fun o e => s3 _ _ e, TabF.start t1 s3 fun y f => ?_, ?_, rfl, fl0, upd_same, fun f => f.2 nlc, ?_, lc0⟩
        · rcases f with f | f
          · exact nf1 y f.1
          · rw [f]
            exact lc0
        · obtain ⟨_, _, _, e, _⟩ := hp1
          rw [e]
          nofun
        · obtain ⟨_, _, _, e, _⟩ := hp1
          exact (ne_of_none e lc0).symm
      rw [← eH3]
      have C0 : Calm (⟨x, q, [], [], [], [], none, [], []⟩ : SG) := nofun
      generalize (⟨x, q, [], [], [], [], none, [], []⟩ : SG) = S0 at A0 C0
      generalize tgt F2 H2 = F3 at A0
      clear eH3 D0 lc0 nf1 s3 sl sx nx0 db kp nf fl0 nx nd ne nlc
      have npm : ml ≠ p := hp0 _ _ hmm nofun
      have mlE : ∀ {H1 : Hp} {F1 : Addr → Prop} {S1 : SG} {n1 : Nat} {m1 : Int} {xs : List V}, L13 c CW Pt H0 H1 F1 p lc x S1 n1 m1 xs → H1 ml = some (.lst (modesS.map V.str)) ∧ ¬ FL F1 lc ml := fun A => by
        have e0 := k0 _ _ hmm nofun
        refine ⟨A.k _ _ e0 npm nofun, fun f => ?_⟩
        rcases f with f | f
        · rw [A.nw _ f] at e0
          cases e0
        · rw [f, A.l0] at e0
          cases e0
      refine ⟨_, rfl, p, 4, 0, rfl, A0.po, by omega, by decide, by decide, fun d o d0 d1 po1 => ?_⟩
      have A1 := A0.kp (Kp.at_ (o := o) (List.mem_singleton.mpr rfl)) po1
      refine ⟨d, rfl, by omega, by omega, for_range (lo := 0) (n := d.toNat) (fun j σ H4 => ∃ (v6 : Option V) (F1 : Addr → Prop) (S1 : SG), σ = [some (.ref a), some (.ref ml), some (.int (0 + (i : Int))), some (.ref p), some (.ref x), some (.ref lc), v6, v7, v8, v9, v10, v11] ∧ L13 c CW Pt H0 H4 F1 p lc x S1 j (1 + j) [] ∧ Calm S1) ⟨_, _, _, rfl, A1.up (by omega) (by omega), C0⟩ ?_ ?_⟩
      · rintro j σ H4 hj ⟨v6, F1, S1, rfl, A2, C2⟩
        refine ⟨_, rfl, _, rfl, _, rfl, p, 8, _, rfl, A2.po, by omega, by decide, by decide, fun d2 o2 d20 d21 po3 => ?_⟩
        obtain ⟨z, hz, hat⟩ := at_list (A := modesS) d20 d21
        have A3 := A2.kp (Kp.at_ (o := o2) (List.mem_singleton.mpr rfl)) po3
        refine ⟨ml, modesS.map V.str, d2, .str z, rfl, rfl, SqL.of (mlE A3).1, hat, ?_⟩
        unfold spEnter13
        refine ⟨S1, F1, j, z, (by rw [A3.ed]; rfl), hz, A3.E, by omega, fun H5 s5 => ?_, fun H5 F5 S5 cg E5 e1 e2 e3 e4 e5 _ => ?_⟩
        · exact ⟨_, F1, S1, rfl, (A3.same s5).up (by omega) (by omega), C2⟩
        · exact ⟨_, F5, S5, rfl, (A3.grow cg E5 e1 e2).up (by omega) (by omega), e5 C2⟩
      rintro σ H4 ⟨v6, F1, S1, rfl, A2, C2⟩
      have A2 := A2.up (n' := 4) (m' := 10) (by omega) (by omega)
      clear A1 A0 po1
      have hf := A2.E.D.db.db.hd
      rw [A2.ed] at hf
      have zf := A2.E.g (show _ ≤ 1000 by omega)
      refine ⟨_, rfl, x, S1.p.dx, _, rfl, hf, S1, F1, [], _, (by rw [A2.ed]), rfl, A2.E.D.db, zf, rfl, ?_⟩
      refine ⟨_, rfl, x, S1.p.dx, _, rfl, hf, S1, F1, [], _, (by rw [A2.ed]), rfl, A2.E.D.db, zf, rfl, ?_⟩
      refine ⟨_, rfl, x, S1.p.dx, _, rfl, hf, S1, F1, [], _, (by rw [A2.ed]), rfl, A2.E.D.db, zf, rfl, ?_⟩
      refine ⟨_, rfl, x, S1.p.dx, _, rfl, hf, rfl, S1, F1, (by rw [A2.ed]; rfl), A2.E.D.db, zf, fun l1 ys1 G1 g1 n1 e1 _ _ m1 => ?_⟩
      have y1 := nil_of m1 A2.E.mine
      subst y1
      have E1 := A2.E.same g1
      refine ⟨_, rfl, x, S1.p.dx, _, rfl, g1 _ _ hf, rfl, S1, F1, (by rw [A2.ed]; rfl), E1.D.db, zf, fun l2 ys2 G2 g2 n2 e2 _ _ m2 => ?_⟩
      have y2 := nil_of m2 A2.E.wait
      subst y2
      refine ⟨(by show 5 ≤ sizeLine; decide), fun bf0 nbf0 => ?_⟩
      have g3 := Same.new (o := .lst [.bl S1.top.isSome, .int (eT S1.top).length, .int S1.bl.length, .ref l1, .ref l2]) nbf0
      obtain ⟨H5, eG⟩ : ∃ G, G = upd G2 bf0 (.lst [.bl S1.top.isSome, .int (eT S1.top).length, .int S1.bl.length, .ref l1, .ref l2]) := ⟨_, rfl⟩
      have fv : Five H5 F1 lc bf0 S1 := by
        rw [eG]
        exact ⟨l1, l2, upd_same, g3 _ _ (g2 _ _ e1), g3 _ _ e2, A2.E.nl A2.hl ((g1.trans g2).free nbf0), A2.E.nl A2.hl n1, A2.E.nl A2.hl (g1.free n2)⟩
      have s5 := (show Same _ H5 from by rw [eG]; exact (g1.trans g2).trans g3)
      show _
      rw [← eG]
      clear eG g3 nbf0 m2 e2 n2 g2 E1 m1 e1 n1 g1 zf hf
      have A3 := A2.same s5
      clear A2
      refine ⟨_, rfl, _, rfl, ?_⟩
      refine ⟨p, ml, 10, rfl, A3.po, by omega, (mlE A3).1, npm.symm, fun H6 wy wl ms lv wd kp6 po6 nwy nwl hwy hwl hms hms4 hlv hwd => ?_⟩
      have A4 := A3.kp kp6 po6
      have wf4 : WayF H6 (FL F1 lc) wy ms lv wd := ⟨⟨wl, hwy, hwl, A3.E.nl A3.hl nwy, A3.E.nl A3.hl nwl⟩, hms, hms4, hlv⟩
      have fv4 := fv.kp A3.po kp6
      clear A3 fv kp6 po6 nwy nwl hwy hwl hms hms4 hlv s5
      refine ⟨_, rfl, _, rfl, p, 8, _, rfl, A4.po, by omega, by decide, by decide, fun d2 o2 d20 d21 po7 => ?_⟩
      obtain ⟨z, hz, hat⟩ := at_list (A := modesS) d20 d21
      have kp7 : Kp [p] H6 (upd H6 p o2) := Kp.at_ (List.mem_singleton.mpr rfl)
      have A5 := A4.kp kp7 po7
      have wf5 := wf4.kp A4.po kp7
      have fv5 := fv4.kp A4.po kp7
      refine ⟨ml, modesS.map V.str, d2, .str z, rfl, rfl, SqL.of (mlE A5).1, hat, ?_⟩
      clear A4 wf4 fv4 hat d20 d21
      generalize upd H6 p o2 = H7 at A5 wf5 fv5
      refine ⟨_, _, rfl, ?_⟩
      refine ⟨fun σ' H' => ∃ (kt : Addr) (keys : List Str), σ' = [some (.ref a), some (.ref ml), some (.int (0 + (i : Int))), some (.ref p), some (.ref x), some (.ref lc), v6, some (.ref bf0), some (.ref wy), some (.str z), some (.ref kt), v11] ∧ L13 c CW Pt H0 H' F1 p lc x S1 4 100 [] ∧ WayF H' (FL F1 lc) wy ms lv wd ∧ Five H' F1 lc bf0 S1 ∧ H' kt = some (.tup (keys.map V.str)) ∧ ¬ FL F1 lc kt ∧ keys.length ≤ 100, ?_, ?_⟩
      · refine ⟨(by show 0 ≤ sizeLine; decide), fun t1 nt1 => ⟨(by show 1 ≤ sizeLine; decide), fun t2 nt2 => ?_⟩⟩
        have s1 := Same.new (o := .tup []) nt1
        have s2 := Same.new (o := .tup [.str "unleft"]) nt2
        obtain ⟨⟨wl, hwy, _⟩, _⟩ := wf5.same (s1.trans s2)
        refine ⟨_, rfl, wy, _, 2, _, rfl, rfl, SqT.of hwy, rfl, rfl, _, rfl, ite2 (fun c1 => ?_) (fun c1 => ?_)⟩
        · refine ⟨_, rfl, wy, _, 2, _, rfl, rfl, SqT.of hwy, rfl, (by show 1 ≤ sizeLine; decide), fun t3 nt3 => ?_⟩
          have s10 := Same.new (o := .tup [.str wd]) nt3
          have s70 := (s1.trans s2).trans s10
          refine ⟨(by show 3 ≤ sizeLine; decide), fun l nl => ?_⟩
          have sl := Same.new (o := .lst [.ref t1, .ref t2, .ref t3]) nl
          have A6 := A5.same (s70.trans sl)
          have pl : p ≠ l := (A5.same s70).po.ne nl
          obtain ⟨G, eG⟩ : ∃ G, G = upd (upd (upd (upd H7 t1 (.tup [])) t2 (.tup [.str "unleft"])) t3 (.tup [.str wd])) l (.lst [.ref t1, .ref t2, .ref t3]) := ⟨_, rfl⟩
          have e1 : G t1 = some (.tup (([] : List Str).map V.str)) := by rw [eG]; exact sl _ _ (s10 _ _ (s2 _ _ upd_same))
          have e2 : G t2 = some (.tup ((["unleft"] : List Str).map V.str)) := by rw [eG]; exact sl _ _ (s10 _ _ upd_same)
          have e3 : G t3 = some (.tup (([wd] : List Str).map V.str)) := by rw [eG]; exact sl _ _ upd_same
          have e4 : G l = some (.lst [.ref t1, .ref t2, .ref t3]) := by rw [eG]; exact upd_same
          have wf6 := wf5.same (s70.trans sl)
          have fv6 := fv5.same (s70.trans sl)
          rw [← eG] at A6 wf6 fv6
          show _
          rw [← eG]
          refine ⟨_, rfl, p, 3, _, rfl, A6.po, by omega, by decide, by decide, fun d3 o3 d30 d31 po8 => ?_⟩
          have kp8 : Kp [p] G (upd G p o3) := Kp.at_ (List.mem_singleton.mpr rfl)
          have A7 := (A6.kp kp8 po8).up (n' := 4) (m' := 100) (by omega) (by omega)
          have wf7 := wf6.kp A6.po kp8
          have fv7 := fv6.kp A6.po kp8
          have tk : ∀ {y : Addr} {xs : List V}, G y = some (.tup xs) → upd G p o3 y = some (.tup xs) := fun {y xs} e => kp8 _ _ e (by
            obtain ⟨_, _, _, e5, _⟩ := id A6.po
            intro z
            rw [List.mem_singleton.mp z, e5] at e
            cases e)
          have f4 : upd G p o3 l = some (.lst [.ref t1, .ref t2, .ref t3]) := by rw [upd_ne pl.symm]; exact e4
          have q : d3 = 0 ∨ d3 = 1 ∨ d3 = 2 := by omega
          rcases q with rfl | rfl | rfl
          · exact ⟨l, _, 0, .ref t1, rfl, rfl, SqL.of f4, rfl, t1, [], rfl, A7, wf7, fv7, tk e1, A5.E.nl A5.hl nt1, (by decide)⟩
          · exact ⟨l, _, 1, .ref t2, rfl, rfl, SqL.of f4, rfl, t2, ["unleft"], rfl, A7, wf7, fv7, tk e2, A5.E.nl A5.hl (s1.free nt2), (by decide)⟩
          · exact ⟨l, _, 2, .ref t3, rfl, rfl, SqL.of f4, rfl, t3, [wd], rfl, A7, wf7, fv7, tk e3, A5.E.nl A5.hl ((s1.trans s2).free nt3), (Nat.le_of_ble_eq_true rfl)⟩
        · refine ⟨(by show 0 ≤ sizeLine; decide), fun t3 nt3 => ?_⟩
          have s10 := Same.new (o := .tup []) nt3
          have s70 := (s1.trans s2).trans s10
          refine ⟨(by show 3 ≤ sizeLine; decide), fun l nl => ?_⟩
          have sl := Same.new (o := .lst [.ref t1, .ref t2, .ref t3]) nl
          have A6 := A5.same (s70.trans sl)
          have pl : p ≠ l := (A5.same s70).po.ne nl
          obtain ⟨G, eG⟩ : ∃ G, G = upd (upd (upd (upd H7 t1 (.tup [])) t2 (.tup [.str "unleft"])) t3 (.tup [])) l (.lst [.ref t1, .ref t2, .ref t3]) := ⟨_, rfl⟩
          have e1 : G t1 = some (.tup (([] : List Str).map V.str)) := by rw [eG]; exact sl _ _ (s10 _ _ (s2 _ _ upd_same))
          have e2 : G t2 = some (.tup ((["unleft"] : List Str).map V.str)) := by rw [eG]; exact sl _ _ (s10 _ _ upd_same)
          have e3 : G t3 = some (.tup ((([] : List Str) : List Str).map V.str)) := by rw [eG]; exact sl _ _ upd_same
          have e4 : G l = some (.lst [.ref t1, .ref t2, .ref t3]) := by rw [eG]; exact upd_same
          have wf6 := wf5.same (s70.trans sl)
          have fv6 := fv5.same (s70.trans sl)
          rw [← eG] at A6 wf6 fv6
          show _
          rw [← eG]
          refine ⟨_, rfl, p, 3, _, rfl, A6.po, by omega, by decide, by decide, fun d3 o3 d30 d31 po8 => ?_⟩
          have kp8 : Kp [p] G (upd G p o3) := Kp.at_ (List.mem_singleton.mpr rfl)
          have A7 := (A6.kp kp8 po8).up (n' := 4) (m' := 100) (by omega) (by omega)
          have wf7 := wf6.kp A6.po kp8
          have fv7 := fv6.kp A6.po kp8
          have tk : ∀ {y : Addr} {xs : List V}, G y = some (.tup xs) → upd G p o3 y = some (.tup xs) := fun {y xs} e => kp8 _ _ e (by
            obtain ⟨_, _, _, e5, _⟩ := id A6.po
            intro z
            rw [List.mem_singleton.mp z, e5] at e
            cases e)
          have f4 : upd G p o3 l = some (.lst [.ref t1, .ref t2, .ref t3]) := by rw [upd_ne pl.symm]; exact e4
          have q : d3 = 0 ∨ d3 = 1 ∨ d3 = 2 := by omega
          rcases q with rfl | rfl | rfl
          · exact ⟨l, _, 0, .ref t1, rfl, rfl, SqL.of f4, rfl, t1, [], rfl, A7, wf7, fv7, tk e1, A5.E.nl A5.hl nt1, (by decide)⟩
          · exact ⟨l, _, 1, .ref t2, rfl, rfl, SqL.of f4, rfl, t2, ["unleft"], rfl, A7, wf7, fv7, tk e2, A5.E.nl A5.hl (s1.free nt2), (by decide)⟩
          · exact ⟨l, _, 2, .ref t3, rfl, rfl, SqL.of f4, rfl, t3, ([] : List Str), rfl, A7, wf7, fv7, tk e3, A5.E.nl A5.hl ((s1.trans s2).free nt3), (Nat.le_of_ble_eq_true rfl)⟩
      rintro σ' H8 ⟨kt, keys, rfl, A6, wf6, fv6, ht6, nt6, lt6⟩
      clear A5 wf5 fv5
      refine ⟨_, rfl, _, rfl, _, rfl, _, rfl, _, rfl, ?_⟩
      unfold spCall13
      refine ⟨S1, F1, 4, z, kt, keys, lc, wy, ms, lv, wd, (by rw [A6.ed]; rfl), hz, A6.E, by decide, A6.ep, C2, A6.tb.n, ⟨ht6, nt6, lt6⟩, ⟨A6.hl, A6.nl⟩, wf6, fun H9 F9 S9 t xs1 ta tb k9 nw9 kt9 E9 d9 p9 sh9 l9 nl9 tb9 ht9 du => ?_⟩
      have A9 := A6.call k9 nw9 kt9 E9 d9 p9 l9 nl9 tb9
      have fv9 : Five H9 F1 lc bf0 S1 := by
        obtain ⟨l1, l2, h1, h2, h3, n1, n2, n3⟩ := fv6
        exact ⟨l1, l2, k9 _ _ h1 nofun n1, k9 _ _ h2 nofun n2, k9 _ _ h3 nofun n3, n1, n2, n3⟩
      have hw9 : ∃ wl, H9 wy = some (.tup [.ref wl, .int lv, .str wd]) := by
        obtain ⟨⟨wl, h1, _, n1, _⟩, _⟩ := wf6
        exact ⟨wl, k9 _ _ h1 nofun n1⟩
      have fe : fiveD S9 = fiveD S1 := A6.E.five E9 sh9
      clear A6 wf6 fv6 ht6 nt6 lt6 k9 nw9 kt9 E9 tb9 C2 sh9
      have hf := A9.E.D.db.db.hd
      rw [A9.ed] at hf
      have zf := A9.E.g (show _ ≤ 1000 by omega)
      refine ⟨_, rfl, x, S9.p.dx, _, rfl, hf, S9, F9, [], _, (by rw [A9.ed]), rfl, A9.E.D.db, zf, rfl, ?_⟩
      refine ⟨_, rfl, x, S9.p.dx, _, rfl, hf, S9, F9, [], _, (by rw [A9.ed]), rfl, A9.E.D.db, zf, rfl, ?_⟩
      refine ⟨_, rfl, x, S9.p.dx, _, rfl, hf, S9, F9, [], _, (by rw [A9.ed]), rfl, A9.E.D.db, zf, rfl, ?_⟩
      refine ⟨_, rfl, x, S9.p.dx, _, rfl, hf, rfl, S9, F9, (by rw [A9.ed]; rfl), A9.E.D.db, zf, fun l1 ys1 G1 g1 n1 e1 _ _ m1 => ?_⟩
      have y1 := nil_of m1 A9.E.mine
      subst y1
      have E1 := A9.E.same g1
      refine ⟨_, rfl, x, S9.p.dx, _, rfl, g1 _ _ hf, rfl, S9, F9, (by rw [A9.ed]; rfl), E1.D.db, zf, fun l2 ys2 G2 g2 n2 e2 _ _ m2 => ?_⟩
      have y2 := nil_of m2 A9.E.wait
      subst y2
      refine ⟨(by show 5 ≤ sizeLine; decide), fun bf nbf => ?_⟩
      have g3 := Same.new (o := .lst [.bl S9.top.isSome, .int (eT S9.top).length, .int S9.bl.length, .ref l1, .ref l2]) nbf
      obtain ⟨H10, eG⟩ : ∃ G, G = upd G2 bf (.lst [.bl S9.top.isSome, .int (eT S9.top).length, .int S9.bl.length, .ref l1, .ref l2]) := ⟨_, rfl⟩
      have fv10 : Five H10 F9 lc bf S9 := by
        rw [eG]
        exact ⟨l1, l2, upd_same, g3 _ _ (g2 _ _ e1), g3 _ _ e2, A9.E.nl A9.hl ((g1.trans g2).free nbf), A9.E.nl A9.hl n1, A9.E.nl A9.hl (g1.free n2)⟩
      have s10 := (show Same _ H10 from by rw [eG]; exact (g1.trans g2).trans g3)
      show _
      rw [← eG]
      clear eG g3 nbf m2 e2 n2 g2 E1 m1 e1 n1 g1 zf hf
      have A10 := A9.same s10
      have fv9 := fv9.same s10
      have ht10 := s10 _ _ ht9
      obtain ⟨wl, hw9⟩ := hw9
      have hw10 := s10 _ _ hw9
      clear A9 ht9 hw9 s10
      refine ⟨_, rfl, five_ne fv10 fv9 fe ⟨false, rfl, iteF ?_⟩⟩
      clear fv10 fv9 fe
      refine ⟨fun σ' H' => σ' = [some (.ref a), some (.ref ml), some (.int (0 + (i : Int))), some (.ref p), some (.ref x), some (.ref lc), v6, some (.ref bf0), some (.ref wy), some (.str z), some (.ref kt), some (.ref t)] ∧ Same H10 H', ?_, ?_⟩
      · refine ⟨_, rfl, Nat.zero_le _, fun l0 nl0 => ?_⟩
        have s1 := Same.new (o := .lst []) nl0
        have hl1 := s1 _ _ A10.hl
        have ht1 := s1 _ _ ht10
        have hw1 := s1 _ _ hw10
        rcases du with ⟨rfl, rfl, du⟩ | ⟨kk, nt, du⟩
        · refine ⟨.list [], .list [], .lst (SqL.of hl1) .nil, .lst (SqL.of upd_same) .nil, (by decide +kernel), (by decide +kernel), ⟨true, rfl, iteT ?_⟩⟩
          refine ⟨_, rfl, (by show 2 ≤ sizeLine; decide), fun t1 n1 => ⟨(by show 2 ≤ sizeLine; decide), fun t2 n2 => ⟨(by show 2 ≤ sizeLine; decide), fun t3 n3 => ⟨(by show 3 ≤ sizeLine; decide), fun l nl => ?_⟩⟩⟩⟩
          have q1 := Same.new (o := .tup [.str "missing", .str "must"]) n1
          have q2 := Same.new (o := .tup [.str "present", .str "never"]) n2
          have q3 := Same.new (o := .tup [.str "present", .str "alone"]) n3
          have q4 := Same.new (o := .lst [.ref t1, .ref t2, .ref t3]) nl
          have qq := ((q1.trans q2).trans q3).trans q4
          have any3 : (([.tuple [.str "missing", .str "must"], .tuple [.str "present", .str "never"], .tuple [.str "present", .str "alone"]] : List PyData).any fun y => PyData.eqv y (.tuple [.str ta, .str z])) = true := by
            rcases du with ⟨rfl, rfl⟩ | ⟨rfl, rfl | rfl⟩ <;> decide +kernel
          have hta : ∀ c ∈ tl ta, Okc c := by
            rcases du with ⟨rfl, _⟩ | ⟨rfl, _⟩
            · exact okc_lit (by decide +kernel)
            · exact okc_lit (by decide +kernel)
          refine ⟨.tuple [.str ta, .str z], [.tuple [.str "missing", .str "must"], .tuple [.str "present", .str "never"], .tuple [.str "present", .str "alone"]], pair_dp (qq _ _ ht1) (.str _), .lst (SqL.of upd_same) (.cons (pair_dp (q4 _ _ (q3 _ _ (q2 _ _ upd_same))) (.str _)) (.cons (pair_dp (q4 _ _ (q3 _ _ upd_same)) (.str _)) (.cons (pair_dp (q4 _ _ upd_same) (.str _)) .nil))), pair_sh hta ⟨strOk_of (okc_m hz), Nat.zero_le _⟩, (by decide +kernel), ?_⟩
          rw [any3]
          exact ⟨false, rfl, iteF ⟨rfl, s1.trans qq⟩⟩
        · have go : ∃ ds, DpAll K (upd H10 l0 (.lst [])) xs1 ds ∧ SeqAt.shaped (.list ds) = true ∧ PyData.eqv (.list ds) (.list []) = false ∧ atI xs1 0 = some (.int kk) ∧ (cutV xs1 (some 1) none = [] ∨ cutV xs1 (some 1) none = [.bl true]) := by
            rcases nt with rfl | ⟨_, rfl⟩
            · exact ⟨[.int kk], .cons (.int _) .nil, shaped_list (xs := [.int kk]) (fun y hy => by rw [List.mem_singleton.mp hy]; exact ⟨rfl, Nat.zero_le _⟩), rfl, rfl, .inl rfl⟩
            · exact ⟨[.int kk, .bool true], .cons (.int _) (.cons (.bl _) .nil), shaped_list (xs := [.int kk, .bool true]) (fun y hy => by
                rcases List.mem_cons.mp hy with rfl | hy
                · exact ⟨rfl, Nat.zero_le _⟩
                · rw [List.mem_singleton.mp hy]; exact ⟨rfl, Nat.zero_le _⟩), rfl, rfl, .inr rfl⟩
          obtain ⟨ds, h1, h2, h3, h4, h5⟩ := go
          refine ⟨.list ds, .list [], .lst (SqL.of hl1) h1, .lst (SqL.of upd_same) .nil, h2, (by decide +kernel), ?_⟩
          rw [h3]
          refine ⟨false, rfl, iteF ?_⟩
          refine ⟨_, rfl, 1, rfl, lc, _, rfl, SqL.of hl1, fun l5 n5 => ⟨l5, _, rfl, .inl (SqL.of upd_same), rfl, ?_⟩⟩
          have s5 := Same.new (o := .lst (cutV xs1 (some 1) none)) n5
          have hl5 := s5 _ _ hl1
          have ht5 := s5 _ _ ht1
          have hw5 := s5 _ _ hw1
          have s15 := s1.trans s5
          have hall : (cutV xs1 (some 1) none).all flatV = true ∧ inV (.bl false) (cutV xs1 (some 1) none) = false := by
            rcases h5 with e | e <;> rw [e] <;> exact ⟨rfl, rfl⟩
          refine ⟨hall.1, ?_⟩
          rw [show (if false = true then _ else inV (.bl false) (cutV xs1 (some 1) none)) = false from hall.2]
          refine ⟨false, rfl, iteF ?_⟩
          refine ⟨_, rfl, wy, _, 2, _, rfl, rfl, SqT.of hw5, rfl, rfl, _, rfl, ite2 (fun c1 => ?_) (fun c1 => ?_)⟩
          · have hz : wd ≠ "" := fun e => by rw [e] at c1; exact absurd c1 (by decide)
            refine iteT ?_
            obtain ⟨rfl, rfl⟩ : ta = "failed" ∧ tb = .str (if wd = "" then ("unleft" : Str) else wd) := by
              rcases du with ⟨_, a, b⟩ | ⟨a, b, _⟩
              · exact ⟨a, b⟩
              · exact absurd hz (by simp [a, b])
            rw [if_neg hz] at ht5
            refine ⟨_, rfl, _, rfl, wy, _, 2, _, rfl, rfl, SqT.of hw5, rfl, rfl, _, rfl, ite2 (fun c3 => ?_) (fun c3 => absurd (by simp [hz]) c3)⟩
            refine ⟨_, rfl, wy, _, 2, _, rfl, rfl, SqT.of hw5, rfl, (by show 2 ≤ sizeLine; decide), fun t7 n7 => ?_⟩
            have s7 := Same.new (o := .tup [.str "failed", .str wd]) n7
            have sh7 : SeqAt.shaped (.tuple [.str "failed", .str wd]) = true := pair_sh (okc_lit (by decide +kernel)) ⟨strOk_of (okc_w (hwd.resolve_left hz)), Nat.zero_le _⟩
            refine ⟨.tuple [.str "failed", .str wd], .tuple [.str "failed", .str wd], pair_dp (s7 _ _ ht5) (.str _), pair_dp upd_same (.str _), sh7, sh7, ?_⟩
            rw [SeqAt.eqv_refl _ (SeqAt.canLay_of_shaped sh7)]
            exact ⟨false, rfl, iteF ⟨rfl, s15.trans s7⟩⟩
          · have hz : wd = "" := Classical.byContradiction fun e => c1 (by simp [e])
            refine ⟨_, rfl, lc, _, 0, _, rfl, rfl, SqL.of hl5, h4, _, _, rfl, rfl, _, rfl, ite2 (fun c2 => ?_) (fun c2 => ?_)⟩
            · have hk : 0 < kk := by
                have c2 : (0 : Int) < (kk : Int) := of_decide_eq_true c2
                omega
              obtain ⟨rfl, rfl⟩ : ta = "failed" ∧ tb = .str (if wd = "" then ("unleft" : Str) else wd) := by
                rcases du with ⟨_, a, b⟩ | ⟨a, b, _⟩
                · exact ⟨a, b⟩
                · exact absurd hk (by simp [a, b])
              rw [if_pos hz] at ht5
              refine ⟨_, rfl, _, rfl, wy, _, 2, _, rfl, rfl, SqT.of hw5, rfl, rfl, _, rfl, ite2 (fun c3 => absurd hz (fun e => by rw [e] at c3; exact absurd c3 (by decide))) (fun c3 => ?_)⟩
              refine ⟨(by show 2 ≤ sizeLine; decide), fun t7 n7 => ?_⟩
              have s7 := Same.new (o := .tup [.str "failed", .str "unleft"]) n7
              have sh7 : SeqAt.shaped (.tuple [.str "failed", .str "unleft"]) = true := by decide +kernel
              refine ⟨.tuple [.str "failed", .str "unleft"], .tuple [.str "failed", .str "unleft"], pair_dp (s7 _ _ ht5) (.str _), pair_dp upd_same (.str _), sh7, sh7, ?_⟩
              rw [SeqAt.eqv_refl _ (SeqAt.canLay_of_shaped sh7)]
              exact ⟨false, rfl, iteF ⟨rfl, s15.trans s7⟩⟩
            · have hk : kk = 0 := by
                have c2 : ¬ (0 : Int) < (kk : Int) := fun h => c2 (decide_eq_true h)
                omega
              have d3 : (ta = "" ∧ tb = .str "told") ∨ (ta = "doomed" ∧ ∃ u : Option Str, (u = none ∨ u = some "wrong") ∧ tb = oV u) := by
                rcases du with ⟨a, _, _⟩ | ⟨_, _, b⟩
                · rcases a with a | a
                  · exact absurd hz a
                  · omega
                · exact b
              refine ⟨_, rfl, (by show 2 ≤ sizeLine; decide), fun t7 n7 => ?_⟩
              have s7 := Same.new (o := .tup [.str "", .str "told"]) n7
              have sh7 : SeqAt.shaped (.tuple [.str "", .str "told"]) = true := by decide +kernel
              rcases d3 with ⟨rfl, rfl⟩ | ⟨rfl, u, hu, rfl⟩
              · refine ⟨.tuple [.str "", .str "told"], .tuple [.str "", .str "told"], pair_dp (s7 _ _ ht5) (.str _), pair_dp upd_same (.str _), sh7, sh7, ?_⟩
                rw [SeqAt.eqv_refl _ (SeqAt.canLay_of_shaped sh7)]
                exact ⟨false, rfl, iteF (iteF ⟨rfl, s15.trans s7⟩)⟩
              · have sd : ∃ e, Dp K (upd (upd (upd H10 l0 (.lst [])) l5 (.lst (cutV xs1 (some 1) none))) t7 (.tup [.str "", .str "told"])) (oV u) e ∧ SeqAt.shaped (.tuple [.str "doomed", e]) = true ∧ PyData.eqv (.tuple [.str "doomed", e]) (.tuple [.str "", .str "told"]) = false := by
                  rcases hu with rfl | rfl
                  · exact ⟨.none, .non, by decide +kernel, by decide +kernel⟩
                  · exact ⟨.str "wrong", .str _, by decide +kernel, by decide +kernel⟩
                obtain ⟨e, he, h8, h9⟩ := sd
                refine ⟨.tuple [.str "doomed", e], .tuple [.str "", .str "told"], pair_dp (s7 _ _ ht5) he, pair_dp upd_same (.str _), h8, sh7, ?_⟩
                rw [h9]
                refine ⟨true, rfl, iteT ?_⟩
                exact ⟨_, rfl, t, _, 0, _, rfl, rfl, SqT.of (s7 _ _ ht5), rfl, rfl, _, rfl, ite2 (fun c => absurd c (by decide)) (fun _ => ⟨rfl, s15.trans s7⟩)⟩
      rintro σ' H11 ⟨rfl, s11⟩
      have A11 := A10.same s11
      clear A10 ht10 hw10 du s11
      refine ⟨fun j σ' H' => ∃ (F1 : Addr → Prop) (S1 : SG), σ' = [some (.ref a), some (.ref ml), some (.int (0 + (i : Int))), some (.ref p), some (.ref x), some (.ref lc), v6, some (.ref bf0), some (.ref wy), some (.str z), some (.ref kt), some (.ref t)] ∧ L13 c CW Pt H0 H' F1 p lc x S1 9 100 xs1 ∧ S1.bl.length = j, ⟨S9.bl.length, F9, S9, rfl, A11, rfl⟩, ?_⟩
      clear A11
      rintro j σ' H12 ⟨F2, S2, rfl, A, hj⟩
      have h2 := A.E.D.db.db.hd
      rw [A.ed] at h2
      refine ⟨_, rfl, x, S2.p.dx, _, rfl, h2, S2, F2, [], _, (by rw [A.ed]), rfl, A.E.D.db, A.E.g (by decide), rfl, _, _, rfl, rfl, _, rfl, ?_⟩
      refine ite2 (fun c1 => ?_) (fun c1 => ?_)
      · have c1 : (0 : Int) < (S2.bl.length : Int) := of_decide_eq_true c1
        obtain ⟨j4, rfl⟩ : ∃ j4, j = j4 + 1 := ⟨j - 1, by omega⟩
        refine ⟨fun σ2 H2 => ∃ (F1 : Addr → Prop) (S1 : SG), σ2 = [some (.ref a), some (.ref ml), some (.int (0 + (i : Int))), some (.ref p), some (.ref x), some (.ref lc), v6, some (.ref bf0), some (.ref wy), some (.str z), some (.ref kt), some (.ref t)] ∧ L13 c CW Pt H0 H2 F1 p lc x S1 9 100 xs1 ∧ S1.bl.length = j4, fun σ2 H2 h => ⟨j4, Nat.lt_succ_self _, h⟩, ?_⟩
        refine ⟨_, rfl, x, S2.p.dx, _, rfl, h2, rfl, S2, F2, .str "late", true, (by rw [A.ed]; rfl), A.E.D.db, A.E.g (by decide), .inr (.inr ⟨?_, A.E.sorts (by omega), some "late", rfl, fun w e => ?_, fun H5 S5 r ks us fr hd5 le lr ft => ?_⟩)⟩
        · rw [A.ep]
          omega
        · injection e with e
          rw [← e]
          exact isw_of (by decide +kernel)
        · have re := lr.err
          have lb := le.bl
          refine ⟨fun _ => ⟨_, S5, rfl, A.grow fr.chg.tight (A.E.leave hd5 le lr ft) le.d le.p, by omega⟩, fun q => ?_, fun q => ?_⟩
          · rw [re] at q
            exact absurd q (by decide)
          · rw [re] at q
            exact absurd q (by decide)
      have c1 : ¬ (0 : Int) < (S2.bl.length : Int) := fun h => c1 (decide_eq_true h)
      have hb0 : S2.bl.length = 0 := by omega
      have ho : S2.top.isSome = false := by
        have e0 : S2.sorts = [] := List.eq_nil_of_length_eq_zero (by rw [A.E.D.db.sorts_len]; exact hb0)
        have wf := A.E.D.db.wf
        rw [e0] at wf
        have wf : (eT S2.top :: S2.sus.map eT) = [[]] := wf
        injection wf with wf _
        rw [A.E.open]
        show decide (0 < (eT S2.top).length) = false
        rw [wf]
        rfl
      refine ⟨_, rfl, ?_⟩
      unfold spBare13
      refine ⟨S2, F2, 9, (by rw [A.ed]; rfl), A.E, by decide, (by rw [A.ep, hb0]; rfl), ?_⟩
      refine ⟨true, rfl, iteF ⟨_, rfl, x, S2.p.dx, _, rfl, h2, S2, F2, [], _, (by rw [A.ed]), rfl, A.E.D.db, A.E.g (by decide), rfl, _, rfl, ?_⟩⟩
      rw [ho]
      exact iteF ⟨_, _, _, _, _, _, _, _, _, _, rfl, fun y u e n => A.k y u (k0 y u e n) (hp0 y u e n) n, A.tb.n⟩
    · rintro σ H1 ⟨v2, v3, v4, v5, v6, v7, v8, v9, v10, v11, rfl, kt, t1⟩
      exact k H1
end
end IC
namespace IC
open PySem L2 TL
theorem all_mk {l : PySem.W.OpenLaw} {w : World} {K : PySem.W.Frag} {h : Heap} {mg : Str → Option Value} {fa f0 f1 f2 f3 f4 f5 f6 f7 f8 f9 f10 f11 f12 f13 f14 f15 f16 f17 f18 f19 f20 f21 f22 f23 f24 f25 f26 f27 f28 f29 f30 f31 f32 f33 f34 f35 f36 f37 f38 f39 f40 f41 : Addr} (X : K.In h) (G : h.Ns mainGlobals mg) (hfa : mg "law" = some (.ref fa))
    {od0 an0 od1 an1 od2 an2 od3 an3 od4 an4 od5 an5 od6 an6 od7 an7 od8 an8 od9 an9 od10 an10 od11 an11 od12 an12 od13 an13 od14 an14 od15 an15 od16 an16 od17 an17 od18 an18 od19 an19 od20 an20 od21 an21 od22 an22 od23 an23 od24 an24 od25 an25 od26 an26 od27 an27 od28 an28 od29 an29 od30 an30 od31 an31 od32 an32 od33 an33 od34 an34 od35 an35 od36 an36 od37 an37 od38 an38 od39 an39 od40 an40 od41 an41 : Option Addr} {sl0 sl1 sl2 sl3 sl4 sl5 sl6 sl7 sl8 sl9 sl10 sl11 sl12 sl13 sl14 sl15 sl16 sl17 sl18 sl19 sl20 sl21 sl22 sl23 sl24 sl25 sl26 sl27 sl28 sl29 sl30 sl31 sl32 sl33 sl34 sl35 sl36 sl37 sl38 sl39 sl40 sl41 : Array (Option Value)} {oc0 dc0 pm0 ct0 kV0 cd0 oc1 dc1 pm1 ct1 kV1 cd1 oc2 dc2 pm2 ct2 kV2 cd2 oc3 dc3 pm3 ct3 kV3 cd3 oc4 dc4 pm4 ct4 kV4 cd4 oc5 dc5 pm5 ct5 kV5 cd5 oc6 dc6 pm6 ct6 kV6 cd6 oc7 dc7 pm7 ct7 kV7 cd7 oc8 dc8 pm8 ct8 kV8 cd8 oc9 dc9 pm9 ct9 kV9 cd9 oc10 dc10 pm10 ct10 kV10 cd10 oc11 dc11 pm11 ct11 kV11 cd11 oc12 dc12 pm12 ct12 kV12 cd12 oc13 dc13 pm13 ct13 kV13 cd13 oc14 dc14 pm14 ct14 kV14 cd14 oc15 dc15 pm15 ct15 kV15 cd15 oc16 dc16 pm16 ct16 kV16 cd16 oc17 dc17 pm17 ct17 kV17 cd17 oc18 dc18 pm18 ct18 kV18 cd18 oc19 dc19 pm19 ct19 kV19 cd19 oc20 dc20 pm20 ct20 kV20 cd20 oc21 dc21 pm21 ct21 kV21 cd21 oc22 dc22 pm22 ct22 kV22 cd22 oc23 dc23 pm23 ct23 kV23 cd23 oc24 dc24 pm24 ct24 kV24 cd24 oc25 dc25 pm25 ct25 kV25 cd25 oc26 dc26 pm26 ct26 kV26 cd26 oc27 dc27 pm27 ct27 kV27 cd27 oc28 dc28 pm28 ct28 kV28 cd28 oc29 dc29 pm29 ct29 cd29 oc30 dc30 pm30 ct30 kV30 cd30 oc31 dc31 pm31 ct31 kV31 cd31 oc32 dc32 pm32 ct32 kV32 cd32 oc33 dc33 pm33 ct33 kV33 cd33 oc34 dc34 pm34 ct34 kV34 cd34 oc35 dc35 pm35 ct35 kV35 cd35 oc36 dc36 pm36 ct36 kV36 cd36 oc37 dc37 pm37 ct37 kV37 cd37 oc38 dc38 pm38 ct38 kV38 cd38 oc39 dc39 pm39 ct39 cd39 oc40 dc40 pm40 ct40 kV40 oc41 dc41 pm41 ct41 kV41 cd41 : Value} {CM pM tM : Addr} {rsM : List Value} {ddM : Option Addr} {nM : Nat} {slM : Array (Option Value)} {y0 y1 y2 y3 y4 y5 y6 y7 w0 w1 w2 w3 w4 w5 w6 w7 : Tok} {CD CT CW CI TL KL TD : Addr} {odL odD : Option Addr} {nL nD : Nat} {slL slD : Array (Option Value)} {tk0 tk1 tk2 tkD : Tok} {EM : Addr} {nm0 q0 : Str} {N0 : Addr} {bs0 : List Value} {sn0 : List Str} {su0 : List Value} {ab0 : Bool} {co0 : Option Bool} {dd0 : Option Addr} {ka0 kb0 kc0 kd0 ke0 : Option Value} {EP : Addr} {nm1 q1 : Str} {N1 : Addr} {bs1 : List Value} {sn1 : List Str} {su1 : List Value} {ab1 : Bool} {co1 : Option Bool} {dd1 : Option Addr} {ka1 kb1 kc1 kd1 ke1 : Option Value} {EO : Addr} {nm2 q2 : Str} {N2 : Addr} {bs2 : List Value} {sn2 : List Str} {su2 : List Value} {ab2 : Bool} {co2 : Option Bool} {dd2 : Option Addr} {ka2 kb2 kc2 kd2 ke2 : Option Value} {EW : Addr} {nm3 q3 : Str} {N3 : Addr} {bs3 : List Value} {sn3 : List Str} {su3 : List Value} {ab3 : Bool} {co3 : Option Bool} {dd3 : Option Addr} {ka3 kb3 kc3 kd3 ke3 : Option Value} {EB : Addr} {nm4 q4 : Str} {N4 : Addr} {bs4 : List Value} {sn4 : List Str} {su4 : List Value} {ab4 : Bool} {co4 : Option Bool} {dd4 : Option Addr} {ka4 kb4 kc4 kd4 ke4 : Option Value} {ER : Addr} {nm5 q5 : Str} {N5 : Addr} {bs5 : List Value} {sn5 : List Str} {su5 : List Value} {ab5 : Bool} {co5 : Option Bool} {dd5 : Option Addr} {ka5 kb5 kc5 kd5 ke5 : Option Value} {EF : Addr} {nm6 q6 : Str} {N6 : Addr} {bs6 : List Value} {sn6 : List Str} {su6 : List Value} {ab6 : Bool} {co6 : Option Bool} {dd6 : Option Addr} {ka6 kb6 kc6 kd6 ke6 : Option Value} {EN : Addr} {KLW C1 Pt : Addr} {ddC : Option Addr} {vsC : Array Value} {slC : Array (Option Value)} {p19 : Addr} {rs19 : List Value} {p20 : Addr} {rs20 : List Value} {p21 : Addr} {rs21 : List Value} {p22 : Addr} {rs22 : List Value} {p23 : Addr} {rs23 : List Value}
    (a0 : PySem.W.nsIn K mainGlobals "_law_pool" = some (some (.ref f0))) (l0 : K.lookup f0 = some ⟨oc0, od0, .func (PySem.W.fnOf "_law_pool" "_law_pool" (defArgs s_law_pool) (defBody s_law_pool) (defScope s_law_pool) .none kV0 dc0 pm0 an0 cd0 ct0), sl0⟩) (c0 : PySem.W.codeIn K cd0 "_law_pool" = true) (k0 : PySem.W.keepIn K (.ref f0) = true)
    (a1 : PySem.W.nsIn K mainGlobals "_law_draw" = some (some (.ref f1))) (l1 : K.lookup f1 = some ⟨oc1, od1, .func (PySem.W.fnOf "_law_draw" "_law_draw" (defArgs s_law_draw) (defBody s_law_draw) (defScope s_law_draw) .none kV1 dc1 pm1 an1 cd1 ct1), sl1⟩) (c1 : PySem.W.codeIn K cd1 "_law_draw" = true) (k1 : PySem.W.keepIn K (.ref f1) = true)
    (a2 : PySem.W.nsIn K mainGlobals "_law_word" = some (some (.ref f2))) (l2 : K.lookup f2 = some ⟨oc2, od2, .func (PySem.W.fnOf "_law_word" "_law_word" (defArgs s_law_word) (defBody s_law_word) (defScope s_law_word) .none kV2 dc2 pm2 an2 cd2 ct2), sl2⟩) (c2 : PySem.W.codeIn K cd2 "_law_word" = true) (k2 : PySem.W.keepIn K (.ref f2) = true)
    (a3 : PySem.W.nsIn K mainGlobals "is_word" = some (some (.ref f3))) (l3 : K.lookup f3 = some ⟨oc3, od3, .func (PySem.W.fnOf "is_word" "is_word" (defArgs s_is_word) (defBody s_is_word) (defScope s_is_word) .none kV3 dc3 pm3 an3 cd3 ct3), sl3⟩) (c3 : PySem.W.codeIn K cd3 "is_word" = true) (k3 : PySem.W.keepIn K (.ref f3) = true)
    (a4 : PySem.W.recIn K pM "staticmethod" = some (.ref f4 :: rsM)) (l4 : K.lookup f4 = some ⟨oc4, od4, .func (PySem.W.fnOf "is_mode" "Mode.is_mode" (defArgs s_Mode_is_mode) (defBody s_Mode_is_mode) (defScope s_Mode_is_mode) .none kV4 dc4 pm4 an4 cd4 ct4), sl4⟩) (c4 : PySem.W.codeIn K cd4 "Mode.is_mode" = true) (k4 : PySem.W.keepIn K (.ref f4) = true)
    (a5 : PySem.W.findIn K (.ref EM) "__init__" = some (some (.ref f5))) (l5 : K.lookup f5 = some ⟨oc5, od5, .func (PySem.W.fnOf "__init__" "Missing.__init__" (defArgs s_Missing___init__) (defBody s_Missing___init__) (defScope s_Missing___init__) .none kV5 dc5 pm5 an5 cd5 ct5), sl5⟩) (c5 : PySem.W.codeIn K cd5 "Missing.__init__" = true) (k5 : PySem.W.keepIn K (.ref f5) = true) (t5 : PySem.W.typeIn K (.ref f5) = some (.type "function"))
    (a6 : PySem.W.findIn K (.ref EP) "__init__" = some (some (.ref f6))) (l6 : K.lookup f6 = some ⟨oc6, od6, .func (PySem.W.fnOf "__init__" "Present.__init__" (defArgs s_Present___init__) (defBody s_Present___init__) (defScope s_Present___init__) .none kV6 dc6 pm6 an6 cd6 ct6), sl6⟩) (c6 : PySem.W.codeIn K cd6 "Present.__init__" = true) (k6 : PySem.W.keepIn K (.ref f6) = true) (t6 : PySem.W.typeIn K (.ref f6) = some (.type "function"))
    (a7 : PySem.W.findIn K (.ref EO) "__init__" = some (some (.ref f7))) (l7 : K.lookup f7 = some ⟨oc7, od7, .func (PySem.W.fnOf "__init__" "Doomed.__init__" (defArgs s_Doomed___init__) (defBody s_Doomed___init__) (defScope s_Doomed___init__) .none kV7 dc7 pm7 an7 cd7 ct7), sl7⟩) (c7 : PySem.W.codeIn K cd7 "Doomed.__init__" = true) (k7 : PySem.W.keepIn K (.ref f7) = true) (t7 : PySem.W.typeIn K (.ref f7) = some (.type "function"))
    (a8 : PySem.W.findIn K (.ref EW) "__init__" = some (some (.ref f8))) (l8 : K.lookup f8 = some ⟨oc8, od8, .func (PySem.W.fnOf "__init__" "Waits.__init__" (defArgs s_Waits___init__) (defBody s_Waits___init__) (defScope s_Waits___init__) .none kV8 dc8 pm8 an8 cd8 ct8), sl8⟩) (c8 : PySem.W.codeIn K cd8 "Waits.__init__" = true) (k8 : PySem.W.keepIn K (.ref f8) = true) (t8 : PySem.W.typeIn K (.ref f8) = some (.type "function"))
    (a9 : PySem.W.findIn K (.ref EB) "__init__" = some (some (.ref f9))) (l9 : K.lookup f9 = some ⟨oc9, od9, .func (PySem.W.fnOf "__init__" "BadWord.__init__" (defArgs s_BadWord___init__) (defBody s_BadWord___init__) (defScope s_BadWord___init__) .none kV9 dc9 pm9 an9 cd9 ct9), sl9⟩) (c9 : PySem.W.codeIn K cd9 "BadWord.__init__" = true) (k9 : PySem.W.keepIn K (.ref f9) = true) (t9 : PySem.W.typeIn K (.ref f9) = some (.type "function"))
    (a10 : PySem.W.findIn K (.ref ER) "__init__" = some (some (.ref f10))) (l10 : K.lookup f10 = some ⟨oc10, od10, .func (PySem.W.fnOf "__init__" "Refused.__init__" (defArgs s_Refused___init__) (defBody s_Refused___init__) (defScope s_Refused___init__) .none kV10 dc10 pm10 an10 cd10 ct10), sl10⟩) (c10 : PySem.W.codeIn K cd10 "Refused.__init__" = true) (k10 : PySem.W.keepIn K (.ref f10) = true) (t10 : PySem.W.typeIn K (.ref f10) = some (.type "function"))
    (a11 : PySem.W.findIn K (.ref EF) "__init__" = some (some (.ref f11))) (l11 : K.lookup f11 = some ⟨oc11, od11, .func (PySem.W.fnOf "__init__" "Failed.__init__" (defArgs s_Failed___init__) (defBody s_Failed___init__) (defScope s_Failed___init__) .none kV11 dc11 pm11 an11 cd11 ct11), sl11⟩) (c11 : PySem.W.codeIn K cd11 "Failed.__init__" = true) (k11 : PySem.W.keepIn K (.ref f11) = true) (t11 : PySem.W.typeIn K (.ref f11) = some (.type "function"))
    (a12 : PySem.W.findIn K (.ref CW) "__init__" = some (some (.ref f12))) (l12 : K.lookup f12 = some ⟨oc12, od12, .func (PySem.W.fnOf "__init__" "Write.__init__" (defArgs s_Write___init__) (defBody s_Write___init__) (defScope s_Write___init__) .none kV12 dc12 pm12 an12 cd12 ct12), sl12⟩) (c12 : PySem.W.codeIn K cd12 "Write.__init__" = true) (k12 : PySem.W.keepIn K (.ref f12) = true) (i12 : PySem.W.isFn K (.ref f12) = true)
    (a13 : PySem.W.findIn K (.ref CT) "__init__" = some (some (.ref f13))) (l13 : K.lookup f13 = some ⟨oc13, od13, .func (PySem.W.fnOf "__init__" "Transaction.__init__" (defArgs s_Transaction___init__) (defBody s_Transaction___init__) (defScope s_Transaction___init__) .none kV13 dc13 pm13 an13 cd13 ct13), sl13⟩) (c13 : PySem.W.codeIn K cd13 "Transaction.__init__" = true) (k13 : PySem.W.keepIn K (.ref f13) = true) (i13 : PySem.W.isFn K (.ref f13) = true)
    (a14 : PySem.W.findIn K (.ref CD) "__init__" = some (some (.ref f14))) (l14 : K.lookup f14 = some ⟨oc14, od14, .func (PySem.W.fnOf "__init__" "Database.__init__" (defArgs s_Database___init__) (defBody s_Database___init__) (defScope s_Database___init__) .none kV14 dc14 pm14 an14 cd14 ct14), sl14⟩) (c14 : PySem.W.codeIn K cd14 "Database.__init__" = true) (k14 : PySem.W.keepIn K (.ref f14) = true) (i14 : PySem.W.isFn K (.ref f14) = true)
    (a15 : PySem.W.findIn K (.ref CT) "doom" = some (some (.ref f15))) (l15 : K.lookup f15 = some ⟨oc15, od15, .func (PySem.W.fnOf "doom" "Transaction.doom" (defArgs s_Transaction_doom) (defBody s_Transaction_doom) (defScope s_Transaction_doom) .none kV15 dc15 pm15 an15 cd15 ct15), sl15⟩) (c15 : PySem.W.codeIn K cd15 "Transaction.doom" = true) (k15 : PySem.W.keepIn K (.ref f15) = true) (i15 : PySem.W.isFn K (.ref f15) = true)
    (a16 : PySem.W.findIn K (.ref CD) "_enter_free" = some (some (.ref f16))) (l16 : K.lookup f16 = some ⟨oc16, od16, .func (PySem.W.fnOf "_enter_free" "Database._enter_free" (defArgs s_Database__enter_free) (defBody s_Database__enter_free) (defScope s_Database__enter_free) .none kV16 dc16 pm16 an16 cd16 ct16), sl16⟩) (c16 : PySem.W.codeIn K cd16 "Database._enter_free" = true) (k16 : PySem.W.keepIn K (.ref f16) = true) (i16 : PySem.W.isFn K (.ref f16) = true)
    (a17 : PySem.W.findIn K (.ref CD) "_enter_present" = some (some (.ref f17))) (l17 : K.lookup f17 = some ⟨oc17, od17, .func (PySem.W.fnOf "_enter_present" "Database._enter_present" (defArgs s_Database__enter_present) (defBody s_Database__enter_present) (defScope s_Database__enter_present) .none kV17 dc17 pm17 an17 cd17 ct17), sl17⟩) (c17 : PySem.W.codeIn K cd17 "Database._enter_present" = true) (k17 : PySem.W.keepIn K (.ref f17) = true) (i17 : PySem.W.isFn K (.ref f17) = true)
    (a18 : PySem.W.findIn K (.ref CD) "enter" = some (some (.ref f18))) (l18 : K.lookup f18 = some ⟨oc18, od18, .func (PySem.W.fnOf "enter" "Database.enter" (defArgs s_Database_enter) (defBody s_Database_enter) (defScope s_Database_enter) .none kV18 dc18 pm18 an18 cd18 ct18), sl18⟩) (c18 : PySem.W.codeIn K cd18 "Database.enter" = true) (k18 : PySem.W.keepIn K (.ref f18) = true) (i18 : PySem.W.isFn K (.ref f18) = true)
    (a19 : PySem.W.findIn K (.ref CD) "reason" = some (some (.ref p19))) (g19 : PySem.W.specialIn K (.ref p19) "__get__" = some (some (.builtin "property.__get__"))) (t19 : PySem.W.takesIn K (.ref p19) = some true) (r19 : PySem.W.recIn K p19 "property" = some (.ref f19 :: rs19)) (l19 : K.lookup f19 = some ⟨oc19, od19, .func (PySem.W.fnOf "reason" "Database.reason" (defArgs s_Database_reason) (defBody s_Database_reason) (defScope s_Database_reason) .none kV19 dc19 pm19 an19 cd19 ct19), sl19⟩) (c19 : PySem.W.codeIn K cd19 "Database.reason" = true) (k19 : PySem.W.keepIn K (.ref f19) = true)
    (a20 : PySem.W.findIn K (.ref CD) "is_doomed" = some (some (.ref p20))) (g20 : PySem.W.specialIn K (.ref p20) "__get__" = some (some (.builtin "property.__get__"))) (t20 : PySem.W.takesIn K (.ref p20) = some true) (r20 : PySem.W.recIn K p20 "property" = some (.ref f20 :: rs20)) (l20 : K.lookup f20 = some ⟨oc20, od20, .func (PySem.W.fnOf "is_doomed" "Database.is_doomed" (defArgs s_Database_is_doomed) (defBody s_Database_is_doomed) (defScope s_Database_is_doomed) .none kV20 dc20 pm20 an20 cd20 ct20), sl20⟩) (c20 : PySem.W.codeIn K cd20 "Database.is_doomed" = true) (k20 : PySem.W.keepIn K (.ref f20) = true)
    (a21 : PySem.W.findIn K (.ref CD) "is_open" = some (some (.ref p21))) (g21 : PySem.W.specialIn K (.ref p21) "__get__" = some (some (.builtin "property.__get__"))) (t21 : PySem.W.takesIn K (.ref p21) = some true) (r21 : PySem.W.recIn K p21 "property" = some (.ref f21 :: rs21)) (l21 : K.lookup f21 = some ⟨oc21, od21, .func (PySem.W.fnOf "is_open" "Database.is_open" (defArgs s_Database_is_open) (defBody s_Database_is_open) (defScope s_Database_is_open) .none kV21 dc21 pm21 an21 cd21 ct21), sl21⟩) (c21 : PySem.W.codeIn K cd21 "Database.is_open" = true) (k21 : PySem.W.keepIn K (.ref f21) = true)
    (a22 : PySem.W.findIn K (.ref CD) "levels" = some (some (.ref p22))) (g22 : PySem.W.specialIn K (.ref p22) "__get__" = some (some (.builtin "property.__get__"))) (t22 : PySem.W.takesIn K (.ref p22) = some true) (r22 : PySem.W.recIn K p22 "property" = some (.ref f22 :: rs22)) (l22 : K.lookup f22 = some ⟨oc22, od22, .func (PySem.W.fnOf "levels" "Database.levels" (defArgs s_Database_levels) (defBody s_Database_levels) (defScope s_Database_levels) .none kV22 dc22 pm22 an22 cd22 ct22), sl22⟩) (c22 : PySem.W.codeIn K cd22 "Database.levels" = true) (k22 : PySem.W.keepIn K (.ref f22) = true)
    (a23 : PySem.W.findIn K (.ref CD) "depth" = some (some (.ref p23))) (g23 : PySem.W.specialIn K (.ref p23) "__get__" = some (some (.builtin "property.__get__"))) (t23 : PySem.W.takesIn K (.ref p23) = some true) (r23 : PySem.W.recIn K p23 "property" = some (.ref f23 :: rs23)) (l23 : K.lookup f23 = some ⟨oc23, od23, .func (PySem.W.fnOf "depth" "Database.depth" (defArgs s_Database_depth) (defBody s_Database_depth) (defScope s_Database_depth) .none kV23 dc23 pm23 an23 cd23 ct23), sl23⟩) (c23 : PySem.W.codeIn K cd23 "Database.depth" = true) (k23 : PySem.W.keepIn K (.ref f23) = true)
    (a24 : PySem.W.findIn K (.ref CD) "_undo" = some (some (.ref f24))) (l24 : K.lookup f24 = some ⟨oc24, od24, .func (PySem.W.fnOf "_undo" "Database._undo" (defArgs s_Database__undo) (defBody s_Database__undo) (defScope s_Database__undo) .none kV24 dc24 pm24 an24 cd24 ct24), sl24⟩) (c24 : PySem.W.codeIn K cd24 "Database._undo" = true) (k24 : PySem.W.keepIn K (.ref f24) = true) (i24 : PySem.W.isFn K (.ref f24) = true)
    (a25 : PySem.W.findIn K (.ref CD) "_keep" = some (some (.ref f25))) (l25 : K.lookup f25 = some ⟨oc25, od25, .func (PySem.W.fnOf "_keep" "Database._keep" (defArgs s_Database__keep) (defBody s_Database__keep) (defScope s_Database__keep) .none kV25 dc25 pm25 an25 cd25 ct25), sl25⟩) (c25 : PySem.W.codeIn K cd25 "Database._keep" = true) (k25 : PySem.W.keepIn K (.ref f25) = true) (i25 : PySem.W.isFn K (.ref f25) = true)
    (a26 : PySem.W.findIn K (.ref CD) "_end_level" = some (some (.ref f26))) (l26 : K.lookup f26 = some ⟨oc26, od26, .func (PySem.W.fnOf "_end_level" "Database._end_level" (defArgs s_Database__end_level) (defBody s_Database__end_level) (defScope s_Database__end_level) .none kV26 dc26 pm26 an26 cd26 ct26), sl26⟩) (c26 : PySem.W.codeIn K cd26 "Database._end_level" = true) (k26 : PySem.W.keepIn K (.ref f26) = true) (i26 : PySem.W.isFn K (.ref f26) = true)
    (a27 : PySem.W.findIn K (.ref CD) "_end_block" = some (some (.ref f27))) (l27 : K.lookup f27 = some ⟨oc27, od27, .func (PySem.W.fnOf "_end_block" "Database._end_block" (defArgs s_Database__end_block) (defBody s_Database__end_block) (defScope s_Database__end_block) .none kV27 dc27 pm27 an27 cd27 ct27), sl27⟩) (c27 : PySem.W.codeIn K cd27 "Database._end_block" = true) (k27 : PySem.W.keepIn K (.ref f27) = true) (i27 : PySem.W.isFn K (.ref f27) = true)
    (a28 : PySem.W.findIn K (.ref CD) "_leave_above" = some (some (.ref f28))) (l28 : K.lookup f28 = some ⟨oc28, od28, .func (PySem.W.fnOf "_leave_above" "Database._leave_above" (defArgs s_Database__leave_above) (defBody s_Database__leave_above) (defScope s_Database__leave_above) .none kV28 dc28 pm28 an28 cd28 ct28), sl28⟩) (c28 : PySem.W.codeIn K cd28 "Database._leave_above" = true) (k28 : PySem.W.keepIn K (.ref f28) = true) (i28 : PySem.W.isFn K (.ref f28) = true)
    (a29 : PySem.W.findIn K (.ref CD) "leave" = some (some (.ref f29))) (l29 : K.lookup f29 = some ⟨oc29, od29, .func (PySem.W.fnOf "leave" "Database.leave" (defArgs s_Database_leave) (defBody s_Database_leave) (defScope s_Database_leave) (.ref TL) (.ref KL) dc29 pm29 an29 cd29 ct29), sl29⟩) (c29 : PySem.W.codeIn K cd29 "Database.leave" = true) (k29 : PySem.W.keepIn K (.ref f29) = true) (i29 : PySem.W.isFn K (.ref f29) = true)
    (a30 : PySem.W.findIn K (.ref CD) "doom" = some (some (.ref f30))) (l30 : K.lookup f30 = some ⟨oc30, od30, .func (PySem.W.fnOf "doom" "Database.doom" (defArgs s_Database_doom) (defBody s_Database_doom) (defScope s_Database_doom) (.ref TD) kV30 dc30 pm30 an30 cd30 ct30), sl30⟩) (c30 : PySem.W.codeIn K cd30 "Database.doom" = true) (k30 : PySem.W.keepIn K (.ref f30) = true) (i30 : PySem.W.isFn K (.ref f30) = true)
    (a31 : PySem.W.findIn K (.ref CD) "_is_holder" = some (some (.ref f31))) (l31 : K.lookup f31 = some ⟨oc31, od31, .func (PySem.W.fnOf "_is_holder" "Database._is_holder" (defArgs s_Database__is_holder) (defBody s_Database__is_holder) (defScope s_Database__is_holder) .none kV31 dc31 pm31 an31 cd31 ct31), sl31⟩) (c31 : PySem.W.codeIn K cd31 "Database._is_holder" = true) (k31 : PySem.W.keepIn K (.ref f31) = true) (i31 : PySem.W.isFn K (.ref f31) = true)
    (a32 : PySem.W.findIn K (.ref CD) "holds" = some (some (.ref f32))) (l32 : K.lookup f32 = some ⟨oc32, od32, .func (PySem.W.fnOf "holds" "Database.holds" (defArgs s_Database_holds) (defBody s_Database_holds) (defScope s_Database_holds) .none kV32 dc32 pm32 an32 cd32 ct32), sl32⟩) (c32 : PySem.W.codeIn K cd32 "Database.holds" = true) (k32 : PySem.W.keepIn K (.ref f32) = true) (i32 : PySem.W.isFn K (.ref f32) = true)
    (a33 : PySem.W.findIn K (.ref CD) "has_suspended" = some (some (.ref f33))) (l33 : K.lookup f33 = some ⟨oc33, od33, .func (PySem.W.fnOf "has_suspended" "Database.has_suspended" (defArgs s_Database_has_suspended) (defBody s_Database_has_suspended) (defScope s_Database_has_suspended) .none kV33 dc33 pm33 an33 cd33 ct33), sl33⟩) (c33 : PySem.W.codeIn K cd33 "Database.has_suspended" = true) (k33 : PySem.W.keepIn K (.ref f33) = true) (i33 : PySem.W.isFn K (.ref f33) = true)
    (a34 : PySem.W.findIn K (.ref CD) "held_records" = some (some (.ref f34))) (l34 : K.lookup f34 = some ⟨oc34, od34, .func (PySem.W.fnOf "held_records" "Database.held_records" (defArgs s_Database_held_records) (defBody s_Database_held_records) (defScope s_Database_held_records) .none kV34 dc34 pm34 an34 cd34 ct34), sl34⟩) (c34 : PySem.W.codeIn K cd34 "Database.held_records" = true) (k34 : PySem.W.keepIn K (.ref f34) = true) (i34 : PySem.W.isFn K (.ref f34) = true)
    (a35 : PySem.W.findIn K (.ref CD) "outer_records" = some (some (.ref f35))) (l35 : K.lookup f35 = some ⟨oc35, od35, .func (PySem.W.fnOf "outer_records" "Database.outer_records" (defArgs s_Database_outer_records) (defBody s_Database_outer_records) (defScope s_Database_outer_records) .none kV35 dc35 pm35 an35 cd35 ct35), sl35⟩) (c35 : PySem.W.codeIn K cd35 "Database.outer_records" = true) (k35 : PySem.W.keepIn K (.ref f35) = true) (i35 : PySem.W.isFn K (.ref f35) = true)
    (a36 : PySem.W.nsIn K mainGlobals "_law_enter" = some (some (.ref f36))) (l36 : K.lookup f36 = some ⟨oc36, od36, .func (PySem.W.fnOf "_law_enter" "_law_enter" (defArgs s_law_enter) (defBody s_law_enter) (defScope s_law_enter) .none kV36 dc36 pm36 an36 cd36 ct36), sl36⟩) (c36 : PySem.W.codeIn K cd36 "_law_enter" = true) (k36 : PySem.W.keepIn K (.ref f36) = true)
    (a37 : PySem.W.nsIn K mainGlobals "_law_bare" = some (some (.ref f37))) (l37 : K.lookup f37 = some ⟨oc37, od37, .func (PySem.W.fnOf "_law_bare" "_law_bare" (defArgs s_law_bare) (defBody s_law_bare) (defScope s_law_bare) .none kV37 dc37 pm37 an37 cd37 ct37), sl37⟩) (c37 : PySem.W.codeIn K cd37 "_law_bare" = true) (k37 : PySem.W.keepIn K (.ref f37) = true)
    (a38 : PySem.W.nsIn K mainGlobals "_law_ways" = some (some (.ref f38))) (l38 : K.lookup f38 = some ⟨oc38, od38, .func (PySem.W.fnOf "_law_ways" "_law_ways" (defArgs s_law_ways) (defBody s_law_ways) (defScope s_law_ways) .none kV38 dc38 pm38 an38 cd38 ct38), sl38⟩) (c38 : PySem.W.codeIn K cd38 "_law_ways" = true) (k38 : PySem.W.keepIn K (.ref f38) = true)
    (a39 : PySem.W.findIn K (.ref CD) "within" = some (some (.ref f39))) (l39 : K.lookup f39 = some ⟨oc39, od39, .func (PySem.W.fnOf "within" "Database.within" (defArgs s_Database_within) (defBody s_Database_within) (defScope s_Database_within) .none (.ref KLW) dc39 pm39 an39 cd39 ct39), sl39⟩) (c39 : PySem.W.codeIn K cd39 "Database.within" = true) (k39 : PySem.W.keepIn K (.ref f39) = true) (i39 : PySem.W.isFn K (.ref f39) = true)
    (a40 : PySem.W.nsIn K mainGlobals "_law_call" = some (some (.ref f40))) (l40 : K.lookup f40 = some ⟨oc40, od40, .func (PySem.W.fnOf "_law_call" "_law_call" (defArgs s_law_call) (defBody s_law_call) (defScope s_law_call) .none kV40 dc40 pm40 an40 (.ref C1) ct40), sl40⟩) (c40 : PySem.W.codeIn K (.ref C1) "_law_call" = true) (k40 : PySem.W.keepIn K (.ref f40) = true)
    (a41 : PySem.W.nsIn K mainGlobals "law" = some (some (.ref f41))) (l41 : K.lookup f41 = some ⟨oc41, od41, .func (PySem.W.fnOf "law" "law" (defArgs s_law) (defBody s_law) (defScope s_law) .none kV41 dc41 pm41 an41 cd41 ct41), sl41⟩) (c41 : PySem.W.codeIn K cd41 "law" = true) (k41 : PySem.W.keepIn K (.ref f41) = true)
    (z_int : PySem.W.nsIn K mainGlobals "int" = some none)
    (z_len : PySem.W.nsIn K mainGlobals "len" = some none)
    (z_abs : PySem.W.nsIn K mainGlobals "abs" = some none)
    (z_range : PySem.W.nsIn K mainGlobals "range" = some none)
    (z_max : PySem.W.nsIn K mainGlobals "max" = some none)
    (z_min : PySem.W.nsIn K mainGlobals "min" = some none)
    (z_isi : PySem.W.nsIn K mainGlobals "isinstance" = some none)
    (z_str : PySem.W.nsIn K mainGlobals "str" = some none)
    (z_all : PySem.W.nsIn K mainGlobals "all" = some none)
    (z_sorted : PySem.W.nsIn K mainGlobals "sorted" = some none)
    (z_bool : PySem.W.nsIn K mainGlobals "bool" = some none)
    (z_set : PySem.W.nsIn K mainGlobals "set" = some none)
    (z_list : PySem.W.nsIn K mainGlobals "list" = some none)
    (mo : PySem.W.nsIn K mainGlobals "Mode" = some (some (.ref CM)))
    (mrd : PySem.W.readsIn K CM (.type "type") = true)
    (mga : PySem.W.specialIn K (.ref CM) "__getattribute__" = some (some (.builtin "type.__getattribute__")))
    (mall : PySem.W.findCls K (.ref CM) (.type "type") "ALL" = some (.val (.ref tM)))
    (mlt : K.lookup tM = some ⟨.type "tuple", ddM, .seq #[.str "join" y0, .str "inner" y1, .str "apart" y2, .str "must" y3, .str "either" y4, .str "never" y5, .str "outside" y6, .str "alone" y7] nM, slM⟩)
    (m0 : PySem.W.findCls K (.ref CM) (.type "type") "JOIN" = some (.val (.str "join" w0)))
    (m1 : PySem.W.findCls K (.ref CM) (.type "type") "INNER" = some (.val (.str "inner" w1)))
    (m2 : PySem.W.findCls K (.ref CM) (.type "type") "APART" = some (.val (.str "apart" w2)))
    (m3 : PySem.W.findCls K (.ref CM) (.type "type") "MUST" = some (.val (.str "must" w3)))
    (m4 : PySem.W.findCls K (.ref CM) (.type "type") "EITHER" = some (.val (.str "either" w4)))
    (m5 : PySem.W.findCls K (.ref CM) (.type "type") "NEVER" = some (.val (.str "never" w5)))
    (m6 : PySem.W.findCls K (.ref CM) (.type "type") "OUTSIDE" = some (.val (.str "outside" w6)))
    (m7 : PySem.W.findCls K (.ref CM) (.type "type") "ALONE" = some (.val (.str "alone" w7)))
    (msm : PySem.W.findCls K (.ref CM) (.type "type") "is_mode" = some (.get (.builtin "staticmethod.__get__") (.ref pM) .none (.ref CM)))
    (gDb : PySem.W.nsIn K mainGlobals "Database" = some (some (.ref CD)))
    (gT : PySem.W.nsIn K mainGlobals "Transaction" = some (some (.ref CT)))
    (gW : PySem.W.nsIn K mainGlobals "Write" = some (some (.ref CW)))
    (gI : PySem.W.nsIn K mainGlobals "InnercommitsError" = some (some (.ref CI)))
    (gEM : PySem.W.nsIn K mainGlobals "Missing" = some (some (.ref EM)))
    (xEM : K.lookup EM = some (excClassObj nm0 q0 EM N0 bs0 [.ref CI, .type "ValueError", .type "Exception", .type "BaseException", .type "object"] true sn0 su0 ab0 co0 dd0 ka0 kb0 kc0 kd0 ke0 "ValueError.__new__"))
    (saEM : PySem.W.findIn K (.ref EM) "__setattr__" = some (some (.builtin "object.__setattr__")))
    (sgEM : PySem.W.findIn K (.ref EM) "__getattribute__" = some (some (.builtin "BaseException.__getattribute__")))
    (shEM : PySem.W.findIn K (.ref EM) "__getattr__" = some none)
    (n1EM : PySem.W.findIn K (.ref EM) "mode" = some none)
    (n2EM : PySem.W.findIn K (.ref EM) "word" = some none)
    (kEM : PySem.W.keepIn K (.ref EM) = true)
    (ebEM : PySem.W.subIn K (.ref EM) (.type "BaseException") = some true)
    (etEM : PySem.W.typeIn K (.ref EM) = some (.type "type"))
    (ehEM : PySem.W.hasDictIn K EM = true)
    (ecEM : PySem.W.isClsIn K EM = true)
    (gEP : PySem.W.nsIn K mainGlobals "Present" = some (some (.ref EP)))
    (xEP : K.lookup EP = some (excClassObj nm1 q1 EP N1 bs1 [.ref CI, .type "ValueError", .type "Exception", .type "BaseException", .type "object"] true sn1 su1 ab1 co1 dd1 ka1 kb1 kc1 kd1 ke1 "ValueError.__new__"))
    (saEP : PySem.W.findIn K (.ref EP) "__setattr__" = some (some (.builtin "object.__setattr__")))
    (sgEP : PySem.W.findIn K (.ref EP) "__getattribute__" = some (some (.builtin "BaseException.__getattribute__")))
    (shEP : PySem.W.findIn K (.ref EP) "__getattr__" = some none)
    (n1EP : PySem.W.findIn K (.ref EP) "mode" = some none)
    (n2EP : PySem.W.findIn K (.ref EP) "word" = some none)
    (kEP : PySem.W.keepIn K (.ref EP) = true)
    (ebEP : PySem.W.subIn K (.ref EP) (.type "BaseException") = some true)
    (etEP : PySem.W.typeIn K (.ref EP) = some (.type "type"))
    (ehEP : PySem.W.hasDictIn K EP = true)
    (ecEP : PySem.W.isClsIn K EP = true)
    (gEO : PySem.W.nsIn K mainGlobals "Doomed" = some (some (.ref EO)))
    (xEO : K.lookup EO = some (excClassObj nm2 q2 EO N2 bs2 [.ref CI, .type "ValueError", .type "Exception", .type "BaseException", .type "object"] true sn2 su2 ab2 co2 dd2 ka2 kb2 kc2 kd2 ke2 "ValueError.__new__"))
    (saEO : PySem.W.findIn K (.ref EO) "__setattr__" = some (some (.builtin "object.__setattr__")))
    (sgEO : PySem.W.findIn K (.ref EO) "__getattribute__" = some (some (.builtin "BaseException.__getattribute__")))
    (shEO : PySem.W.findIn K (.ref EO) "__getattr__" = some none)
    (n1EO : PySem.W.findIn K (.ref EO) "first" = some none)
    (n2EO : PySem.W.findIn K (.ref EO) "word" = some none)
    (kEO : PySem.W.keepIn K (.ref EO) = true)
    (ebEO : PySem.W.subIn K (.ref EO) (.type "BaseException") = some true)
    (etEO : PySem.W.typeIn K (.ref EO) = some (.type "type"))
    (ehEO : PySem.W.hasDictIn K EO = true)
    (ecEO : PySem.W.isClsIn K EO = true)
    (gEW : PySem.W.nsIn K mainGlobals "Waits" = some (some (.ref EW)))
    (xEW : K.lookup EW = some (excClassObj nm3 q3 EW N3 bs3 [.ref CI, .type "ValueError", .type "Exception", .type "BaseException", .type "object"] true sn3 su3 ab3 co3 dd3 ka3 kb3 kc3 kd3 ke3 "ValueError.__new__"))
    (saEW : PySem.W.findIn K (.ref EW) "__setattr__" = some (some (.builtin "object.__setattr__")))
    (sgEW : PySem.W.findIn K (.ref EW) "__getattribute__" = some (some (.builtin "BaseException.__getattribute__")))
    (shEW : PySem.W.findIn K (.ref EW) "__getattr__" = some none)
    (n1EW : PySem.W.findIn K (.ref EW) "record" = some none)
    (n2EW : PySem.W.findIn K (.ref EW) "word" = some none)
    (kEW : PySem.W.keepIn K (.ref EW) = true)
    (ebEW : PySem.W.subIn K (.ref EW) (.type "BaseException") = some true)
    (etEW : PySem.W.typeIn K (.ref EW) = some (.type "type"))
    (ehEW : PySem.W.hasDictIn K EW = true)
    (ecEW : PySem.W.isClsIn K EW = true)
    (gEB : PySem.W.nsIn K mainGlobals "BadWord" = some (some (.ref EB)))
    (xEB : K.lookup EB = some (excClassObj nm4 q4 EB N4 bs4 [.ref CI, .type "ValueError", .type "Exception", .type "BaseException", .type "object"] true sn4 su4 ab4 co4 dd4 ka4 kb4 kc4 kd4 ke4 "ValueError.__new__"))
    (saEB : PySem.W.findIn K (.ref EB) "__setattr__" = some (some (.builtin "object.__setattr__")))
    (sgEB : PySem.W.findIn K (.ref EB) "__getattribute__" = some (some (.builtin "BaseException.__getattribute__")))
    (shEB : PySem.W.findIn K (.ref EB) "__getattr__" = some none)
    (n1EB : PySem.W.findIn K (.ref EB) "word" = some none)
    (kEB : PySem.W.keepIn K (.ref EB) = true)
    (ebEB : PySem.W.subIn K (.ref EB) (.type "BaseException") = some true)
    (etEB : PySem.W.typeIn K (.ref EB) = some (.type "type"))
    (ehEB : PySem.W.hasDictIn K EB = true)
    (ecEB : PySem.W.isClsIn K EB = true)
    (gER : PySem.W.nsIn K mainGlobals "Refused" = some (some (.ref ER)))
    (xER : K.lookup ER = some (excClassObj nm5 q5 ER N5 bs5 [.ref CI, .type "ValueError", .type "Exception", .type "BaseException", .type "object"] true sn5 su5 ab5 co5 dd5 ka5 kb5 kc5 kd5 ke5 "ValueError.__new__"))
    (saER : PySem.W.findIn K (.ref ER) "__setattr__" = some (some (.builtin "object.__setattr__")))
    (sgER : PySem.W.findIn K (.ref ER) "__getattribute__" = some (some (.builtin "BaseException.__getattribute__")))
    (shER : PySem.W.findIn K (.ref ER) "__getattr__" = some none)
    (n2ER : PySem.W.findIn K (.ref ER) "word" = some none)
    (kER : PySem.W.keepIn K (.ref ER) = true)
    (ebER : PySem.W.subIn K (.ref ER) (.type "BaseException") = some true)
    (etER : PySem.W.typeIn K (.ref ER) = some (.type "type"))
    (ehER : PySem.W.hasDictIn K ER = true)
    (ecER : PySem.W.isClsIn K ER = true)
    (gEF : PySem.W.nsIn K mainGlobals "Failed" = some (some (.ref EF)))
    (xEF : K.lookup EF = some (excClassObj nm6 q6 EF N6 bs6 [.ref CI, .type "ValueError", .type "Exception", .type "BaseException", .type "object"] true sn6 su6 ab6 co6 dd6 ka6 kb6 kc6 kd6 ke6 "ValueError.__new__"))
    (saEF : PySem.W.findIn K (.ref EF) "__setattr__" = some (some (.builtin "object.__setattr__")))
    (sgEF : PySem.W.findIn K (.ref EF) "__getattribute__" = some (some (.builtin "BaseException.__getattribute__")))
    (shEF : PySem.W.findIn K (.ref EF) "__getattr__" = some none)
    (n1EF : PySem.W.findIn K (.ref EF) "word" = some none)
    (kEF : PySem.W.keepIn K (.ref EF) = true)
    (ebEF : PySem.W.subIn K (.ref EF) (.type "BaseException") = some true)
    (etEF : PySem.W.typeIn K (.ref EF) = some (.type "type"))
    (ehEF : PySem.W.hasDictIn K EF = true)
    (ecEF : PySem.W.isClsIn K EF = true)
    (gEN : PySem.W.nsIn K mainGlobals "NoBlock" = some (some (.ref EN)))
    (xEN : PySem.W.excIn K EN [.type "ValueError", .type "Exception", .type "BaseException", .type "object"] "ValueError.__new__" = true)
    (kEN : PySem.W.keepIn K (.ref EN) = true)
    (ebEN : PySem.W.subIn K (.ref EN) (.type "BaseException") = some true)
    (etEN : PySem.W.typeIn K (.ref EN) = some (.type "type"))
    (ecEN : PySem.W.isClsIn K EN = true)
    (ebCI : PySem.W.subIn K (.ref CI) (.type "BaseException") = some true)
    (etCI : PySem.W.typeIn K (.ref CI) = some (.type "type"))
    (ecCI : PySem.W.isClsIn K CI = true)
    (uEM_CI : PySem.W.subIn K (.ref EM) (.ref CI) = some true)
    (uEP_CI : PySem.W.subIn K (.ref EP) (.ref CI) = some true)
    (uEO_CI : PySem.W.subIn K (.ref EO) (.ref CI) = some true)
    (uEN_EN : PySem.W.subIn K (.ref EN) (.ref EN) = some true)
    (uEF_EF : PySem.W.subIn K (.ref EF) (.ref EF) = some true)
    (uEM_EF : PySem.W.subIn K (.ref EM) (.ref EF) = some false)
    (uEM_EM : PySem.W.subIn K (.ref EM) (.ref EM) = some true)
    (uEP_EF : PySem.W.subIn K (.ref EP) (.ref EF) = some false)
    (uEP_EM : PySem.W.subIn K (.ref EP) (.ref EM) = some false)
    (uEP_EP : PySem.W.subIn K (.ref EP) (.ref EP) = some true)
    (uEO_EF : PySem.W.subIn K (.ref EO) (.ref EF) = some false)
    (uEO_EM : PySem.W.subIn K (.ref EO) (.ref EM) = some false)
    (uEO_EP : PySem.W.subIn K (.ref EO) (.ref EP) = some false)
    (uEO_EO : PySem.W.subIn K (.ref EO) (.ref EO) = some true)
    (uEF_EO : PySem.W.subIn K (.ref EF) (.ref EO) = some false)
    (uEF_EM : PySem.W.subIn K (.ref EF) (.ref EM) = some false)
    (uEF_EP : PySem.W.subIn K (.ref EF) (.ref EP) = some false)
    (uEF_ER : PySem.W.subIn K (.ref EF) (.ref ER) = some false)
    (uEF_EW : PySem.W.subIn K (.ref EF) (.ref EW) = some false)
    (pgD : PySem.W.plainGet K CD Str.empty = true)
    (hdD : PySem.W.hasDictIn K CD = true)
    (poD : PySem.W.plainOver K CD = true)
    (saD : PySem.W.findIn K (.ref CD) "__setattr__" = some (some (.builtin "object.__setattr__")))
    (mkD : PySem.W.makesIn K CD = true)
    (kpD : PySem.W.keepIn K (.ref CD) = true)
    (pgT : PySem.W.plainGet K CT Str.empty = true)
    (hdT : PySem.W.hasDictIn K CT = true)
    (poT : PySem.W.plainOver K CT = true)
    (saT : PySem.W.findIn K (.ref CT) "__setattr__" = some (some (.builtin "object.__setattr__")))
    (mkT : PySem.W.makesIn K CT = true)
    (kpT : PySem.W.keepIn K (.ref CT) = true)
    (pgW : PySem.W.plainGet K CW Str.empty = true)
    (hdW : PySem.W.hasDictIn K CW = true)
    (poW : PySem.W.plainOver K CW = true)
    (saW : PySem.W.findIn K (.ref CW) "__setattr__" = some (some (.builtin "object.__setattr__")))
    (mkW : PySem.W.makesIn K CW = true)
    (kpW : PySem.W.keepIn K (.ref CW) = true)
    (nD0 : PySem.W.findIn K (.ref CD) "_present" = some none)
    (nD1 : PySem.W.findIn K (.ref CD) "_blocks" = some none)
    (nD2 : PySem.W.findIn K (.ref CD) "_floor" = some none)
    (nD3 : PySem.W.findIn K (.ref CD) "_made" = some none)
    (nD4 : PySem.W.findIn K (.ref CD) "_held" = some none)
    (nD5 : PySem.W.findIn K (.ref CD) "_kept" = some none)
    (nT0 : PySem.W.findIn K (.ref CT) "own" = some none)
    (nT1 : PySem.W.findIn K (.ref CT) "starts" = some none)
    (nT2 : PySem.W.findIn K (.ref CT) "first" = some none)
    (nW0 : PySem.W.findIn K (.ref CW) "record" = some none)
    (nW1 : PySem.W.findIn K (.ref CW) "value" = some none)
    (nW2 : PySem.W.findIn K (.ref CW) "holder" = some none)
    (nW3 : PySem.W.findIn K (.ref CW) "fate" = some none)
    (mT : PySem.W.mroIn K CT (.type "object") = some true)
    (sT : PySem.W.findIn K (.ref CT) "__eq__" = some (some (.builtin "object.__eq__")))
    (nsq : PySem.W.noSeq K CD = true)
    (gC0 : PySem.W.nsIn K mainGlobals "ENDS" = some (some (.str "ends" tk0)))
    (gC1 : PySem.W.nsIn K mainGlobals "DOOMS" = some (some (.str "dooms" tk1)))
    (gC2 : PySem.W.nsIn K mainGlobals "NOTHING" = some (some (.str "nothing" tk2)))
    (lTL : K.lookup TL = some ⟨.type "tuple", odL, .seq #[.none] nL, slL⟩)
    (hKL : PySem.W.nsIn K KL "commits" = some (some (.bool true)))
    (lTD : K.lookup TD = some ⟨.type "tuple", odD, .seq #[.str "doom" tkD] nD, slD⟩)
    (hKLW : PySem.W.nsIn K KLW "commits" = some (some (.bool true)))
    (lC1 : K.lookup C1 = some ⟨.type "code", ddC, .fields vsC, slC⟩)
    (pC : (vsC[11]? : Option Value) = some (.ref Pt))
    (cH : PySem.W.codeHdIn K C1 Pt = true)
    (nT : K.lookup Pt = none)
    (hT0 : h.get? Pt = some { cls := .none, data := .fields #[] })
    : LamX.LawAtS l w K CX0 9 63 "script" mg fa h := by
  have e := hfa.symm.trans (PySem.W.mg_of X G a41)
  cases e
  have T : Bn mg := ⟨PySem.W.mg_none_of X G z_int, PySem.W.mg_none_of X G z_len, PySem.W.mg_none_of X G z_abs, PySem.W.mg_none_of X G z_range, PySem.W.mg_none_of X G z_max, PySem.W.mg_none_of X G z_min, PySem.W.mg_none_of X G z_isi, PySem.W.mg_none_of X G z_str, PySem.W.mg_none_of X G z_all, PySem.W.mg_none_of X G z_sorted, PySem.W.mg_none_of X G z_bool, PySem.W.mg_none_of X G z_set, PySem.W.mg_none_of X G z_list⟩
  have F0 := fun_mk (st := s_law_pool) l0 c0 k0
  have b0 := F0.binds (ps := ["script", "at"]) fun _ _ _ _ _ _ us hl => match us, hl with | [_, _], _ => rfl
  have F1 := fun_mk (st := s_law_draw) l1 c1 k1
  have b1 := F1.binds (ps := ["pool", "many"]) fun _ _ _ _ _ _ us hl => match us, hl with | [_, _], _ => rfl
  have F2 := fun_mk (st := s_law_word) l2 c2 k2
  have b2 := F2.binds (ps := ["pool"]) fun _ _ _ _ _ _ us hl => match us, hl with | [_], _ => rfl
  have F3 := fun_mk (st := s_is_word) l3 c3 k3
  have b3 := F3.binds (ps := ["thing"]) fun _ _ _ _ _ _ us hl => match us, hl with | [_], _ => rfl
  have F4 := fun_mk (st := s_Mode_is_mode) l4 c4 k4
  have b4 := F4.binds (ps := ["thing"]) fun _ _ _ _ _ _ us hl => match us, hl with | [_], _ => rfl
  have F5 := fun_mk (st := s_Missing___init__) l5 c5 k5
  have b5 := F5.binds (ps := ["self", "mode"]) fun _ _ _ _ _ _ us hl => match us, hl with | [_, _], _ => rfl
  have F6 := fun_mk (st := s_Present___init__) l6 c6 k6
  have b6 := F6.binds (ps := ["self", "mode"]) fun _ _ _ _ _ _ us hl => match us, hl with | [_, _], _ => rfl
  have F7 := fun_mk (st := s_Doomed___init__) l7 c7 k7
  have b7 := F7.binds (ps := ["self", "first"]) fun _ _ _ _ _ _ us hl => match us, hl with | [_, _], _ => rfl
  have F8 := fun_mk (st := s_Waits___init__) l8 c8 k8
  have b8 := F8.binds (ps := ["self", "record"]) fun _ _ _ _ _ _ us hl => match us, hl with | [_, _], _ => rfl
  have F9 := fun_mk (st := s_BadWord___init__) l9 c9 k9
  have b9 := F9.binds (ps := ["self", "word"]) fun _ _ _ _ _ _ us hl => match us, hl with | [_, _], _ => rfl
  have F10 := fun_mk (st := s_Refused___init__) l10 c10 k10
  have b10 := F10.binds (ps := ["self"]) fun _ _ _ _ _ _ us hl => match us, hl with | [_], _ => rfl
  have F11 := fun_mk (st := s_Failed___init__) l11 c11 k11
  have b11 := F11.binds (ps := ["self", "word"]) fun _ _ _ _ _ _ us hl => match us, hl with | [_, _], _ => rfl
  have F12 := fun_mk (st := s_Write___init__) l12 c12 k12
  have b12 := F12.binds (ps := ["self", "record", "value", "holder"]) fun _ _ _ _ _ _ us hl => match us, hl with | [_, _, _, _], _ => rfl
  have F13 := fun_mk (st := s_Transaction___init__) l13 c13 k13
  have b13 := F13.binds (ps := ["self"]) fun _ _ _ _ _ _ us hl => match us, hl with | [_], _ => rfl
  have F14 := fun_mk (st := s_Database___init__) l14 c14 k14
  have b14 := F14.binds (ps := ["self"]) fun _ _ _ _ _ _ us hl => match us, hl with | [_], _ => rfl
  have F15 := fun_mk (st := s_Transaction_doom) l15 c15 k15
  have b15 := F15.binds (ps := ["self", "first"]) fun _ _ _ _ _ _ us hl => match us, hl with | [_, _], _ => rfl
  have F16 := fun_mk (st := s_Database__enter_free) l16 c16 k16
  have b16 := F16.binds (ps := ["self", "mode"]) fun _ _ _ _ _ _ us hl => match us, hl with | [_, _], _ => rfl
  have F17 := fun_mk (st := s_Database__enter_present) l17 c17 k17
  have b17 := F17.binds (ps := ["self", "mode", "present"]) fun _ _ _ _ _ _ us hl => match us, hl with | [_, _, _], _ => rfl
  have F18 := fun_mk (st := s_Database_enter) l18 c18 k18
  have b18 := F18.binds (ps := ["self", "mode"]) fun _ _ _ _ _ _ us hl => match us, hl with | [_, _], _ => rfl
  have F19 := fun_mk (st := s_Database_reason) l19 c19 k19
  have b19 := F19.binds (ps := ["self"]) fun _ _ _ _ _ _ us hl => match us, hl with | [_], _ => rfl
  have F20 := fun_mk (st := s_Database_is_doomed) l20 c20 k20
  have b20 := F20.binds (ps := ["self"]) fun _ _ _ _ _ _ us hl => match us, hl with | [_], _ => rfl
  have F21 := fun_mk (st := s_Database_is_open) l21 c21 k21
  have b21 := F21.binds (ps := ["self"]) fun _ _ _ _ _ _ us hl => match us, hl with | [_], _ => rfl
  have F22 := fun_mk (st := s_Database_levels) l22 c22 k22
  have b22 := F22.binds (ps := ["self"]) fun _ _ _ _ _ _ us hl => match us, hl with | [_], _ => rfl
  have F23 := fun_mk (st := s_Database_depth) l23 c23 k23
  have b23 := F23.binds (ps := ["self"]) fun _ _ _ _ _ _ us hl => match us, hl with | [_], _ => rfl
  have F24 := fun_mk (st := s_Database__undo) l24 c24 k24
  have b24 := F24.binds (ps := ["self", "transaction", "start"]) fun _ _ _ _ _ _ us hl => match us, hl with | [_, _, _], _ => rfl
  have F25 := fun_mk (st := s_Database__keep) l25 c25 k25
  have b25 := F25.binds (ps := ["self", "transaction"]) fun _ _ _ _ _ _ us hl => match us, hl with | [_, _], _ => rfl
  have F26 := fun_mk (st := s_Database__end_level) l26 c26 k26
  have b26 := F26.binds (ps := ["self", "transaction", "error", "commits"]) fun _ _ _ _ _ _ us hl => match us, hl with | [_, _, _, _], _ => rfl
  have F27 := fun_mk (st := s_Database__end_block) l27 c27 k27
  have b27 := F27.binds (ps := ["self", "error", "commits"]) fun _ _ _ _ _ _ us hl => match us, hl with | [_, _, _], _ => rfl
  have F28 := fun_mk (st := s_Database__leave_above) l28 c28 k28
  have b28 := F28.binds (ps := ["self", "floor", "word"]) fun _ _ _ _ _ _ us hl => match us, hl with | [_, _, _], _ => rfl
  have F29 : FunD K "leave" "Database.leave" (defArgs s_Database_leave) (defBody s_Database_leave) (defScope s_Database_leave) [.non] [("commits", .bl true)] f29 _ := ⟨⟨_, _, _, _, _, _, _, _, _, _, rfl, l29, c29, .inr ⟨by simp, TL, _, _, _, rfl, lTL, rfl, .cons rfl .nil⟩, .inr ⟨KL, rfl, fun q hq => by
    have hq := List.mem_singleton.mp hq
    subst hq
    exact ⟨_, hKL, rfl⟩⟩⟩, k29⟩
  obtain ⟨dsL1, vL1, bL1⟩ := F29.binds (ps := ["self", "error", "commits"]) 2 1 (by simp) rfl (fun T D doc pm an cdv ct us its ks h1 h2 h3 => match us, its, ks, h1, h2, h3 with | [_, _], [_], [_], _, _, _ => ⟨_, rfl, _, _, _, _, _, _, rfl, rfl, rfl⟩) (by simp)
  obtain ⟨dsL0, vL0, bL0⟩ := F29.binds (ps := ["self", "error", "commits"]) 1 0 (by simp) rfl (fun T D doc pm an cdv ct us its ks h1 h2 h3 => match us, its, ks, h1, h2, h3 with | [_], [_], [_], _, _, _ => ⟨_, rfl, _, _, _, _, _, _, rfl, rfl, rfl⟩) (by simp)
  obtain ⟨_, _, bK0?⟩ := F29.kbinds (ps := ["self", "error", "commits"]) 1 ["commits"] [] (fun us its _ ws => us ++ its ++ ws) (by simp) (by simp) (by simp) (fun r1 r2 _ r3 => (r1.append r2).append r3) (fun T D doc pm an cdv ct us its mv ws h1 h2 h3 h4 => match us, its, mv, ws, h1, h2, h3, h4 with | [_], [_], [], [_], _, _, _, _ => ⟨_, rfl, rfl⟩)
  have F30 : FunD K "doom" "Database.doom" (defArgs s_Database_doom) (defBody s_Database_doom) (defScope s_Database_doom) [.str "doom"] [] f30 _ := ⟨⟨_, _, _, _, _, _, _, _, _, _, rfl, l30, c30, .inr ⟨by simp, TD, _, _, _, rfl, lTD, rfl, .cons ⟨_, rfl⟩ .nil⟩, .inl rfl⟩, k30⟩
  obtain ⟨dsD, vD, b30⟩ := F30.binds1 (ps := ["self", "first"]) 2 1 (by simp) rfl (fun T kV doc pm an cdv ct us its h1 h2 => match us, its, h1, h2 with | [_, _], [_], _, _ => ⟨_, rfl, rfl⟩)
  have F31 := fun_mk (st := s_Database__is_holder) l31 c31 k31
  have b31 := F31.binds (ps := ["self", "record"]) fun _ _ _ _ _ _ us hl => match us, hl with | [_, _], _ => rfl
  have F32 := fun_mk (st := s_Database_holds) l32 c32 k32
  have b32 := F32.binds (ps := ["self", "record"]) fun _ _ _ _ _ _ us hl => match us, hl with | [_, _], _ => rfl
  have F33 := fun_mk (st := s_Database_has_suspended) l33 c33 k33
  have b33 := F33.binds (ps := ["self", "record"]) fun _ _ _ _ _ _ us hl => match us, hl with | [_, _], _ => rfl
  have F34 := fun_mk (st := s_Database_held_records) l34 c34 k34
  have b34 := F34.binds (ps := ["self"]) fun _ _ _ _ _ _ us hl => match us, hl with | [_], _ => rfl
  have F35 := fun_mk (st := s_Database_outer_records) l35 c35 k35
  have b35 := F35.binds (ps := ["self"]) fun _ _ _ _ _ _ us hl => match us, hl with | [_], _ => rfl
  have F36 := fun_mk (st := s_law_enter) l36 c36 k36
  have b36 := F36.binds (ps := ["db", "mode"]) fun _ _ _ _ _ _ us hl => match us, hl with | [_, _], _ => rfl
  have F37 := fun_mk (st := s_law_bare) l37 c37 k37
  have b37 := F37.binds (ps := ["db"]) fun _ _ _ _ _ _ us hl => match us, hl with | [_], _ => rfl
  have F38 := fun_mk (st := s_law_ways) l38 c38 k38
  have b38 := F38.binds (ps := ["pool", "modes"]) fun _ _ _ _ _ _ us hl => match us, hl with | [_, _], _ => rfl
  have F39 : FunD K "within" "Database.within" (defArgs s_Database_within) (defBody s_Database_within) (defScope s_Database_within) [] [("commits", .bl true)] f39 _ := ⟨⟨_, _, _, _, _, _, _, _, _, _, rfl, l39, c39, .inl ⟨rfl, rfl⟩, .inr ⟨KLW, rfl, fun q hq => by
    have hq := List.mem_singleton.mp hq
    subst hq
    exact ⟨_, hKLW, rfl⟩⟩⟩, k39⟩
  obtain ⟨_, bKw⟩ := F39.kbinds0 (ps := ["self", "mode", "deed", "keep", "commits"]) 3 ["keep"] [("commits", .bl true)] (fun us mv ws => us ++ ws ++ mv) (by simp) (by simp) (fun r1 r2 r3 => (r1.append r3).append r2) (fun D doc pm an cdv ct us mv ws h1 h2 h3 => match us, mv, ws, h1, h2, h3 with | [_, _, _], [_], [_], _, _, _ => ⟨_, _, _, _, _, _, rfl, rfl, rfl⟩)
  have F40 := fun_mk (st := s_law_call) l40 c40 k40
  have b40 := F40.binds (ps := ["db", "mode", "ways", "listed", "notes"]) fun _ _ _ _ _ _ us hl => match us, hl with | [_, _, _, _, _], _ => rfl
  have F41 := fun_mk (st := s_law) l41 c41 k41
  refine ⟨PySem.W.fnOf "law" "law" (defArgs s_law) (defBody s_law) (defScope s_law) .none kV41 dc41 pm41 an41 cd41 ct41, [(C1, Pt)], spLaw13 K Pt, fun q hq => by rw [List.mem_singleton.mp hq]; exact hT0, fun q hq => by rw [List.mem_singleton.mp hq]; exact nT, fun q hq => by rw [List.mem_singleton.mp hq]; exact PySem.W.codeHd_of_K X cH, fun s v => .of_eq rfl, fun H a ns hn _ hT hS => ⟨a, ns, rfl, hS, hn, NdefX.TabN.nil (hT (C1, Pt) (List.mem_singleton.mpr rfl)), fun _ => rfl⟩, fun base hbK hbG hTB => ?_⟩
  have conM : ∀ nm z : Str, (nm, z) ∈ ([("JOIN", "join"), ("INNER", "inner"), ("APART", "apart"), ("MUST", "must"), ("EITHER", "either"), ("NEVER", "never"), ("OUTSIDE", "outside"), ("ALONE", "alone")] : List (Str × Str)) → ∃ u, ClX.CVal K CM (.type "type") nm (.str z) u := by
    intro nm z hz
    simp only [List.mem_cons, List.not_mem_nil, or_false, Prod.mk.injEq] at hz
    rcases hz with ⟨rfl, rfl⟩ | ⟨rfl, rfl⟩ | ⟨rfl, rfl⟩ | ⟨rfl, rfl⟩ | ⟨rfl, rfl⟩ | ⟨rfl, rfl⟩ | ⟨rfl, rfl⟩ | ⟨rfl, rfl⟩
    · exact ⟨_, m0, ⟨_, rfl⟩⟩
    · exact ⟨_, m1, ⟨_, rfl⟩⟩
    · exact ⟨_, m2, ⟨_, rfl⟩⟩
    · exact ⟨_, m3, ⟨_, rfl⟩⟩
    · exact ⟨_, m4, ⟨_, rfl⟩⟩
    · exact ⟨_, m5, ⟨_, rfl⟩⟩
    · exact ⟨_, m6, ⟨_, rfl⟩⟩
    · exact ⟨_, m7, ⟨_, rfl⟩⟩
  have M : ModeTxt K mg CM pM f4 tM (.type "type") := { mo := PySem.W.mg_of X G mo, rd := ⟨mrd, mga⟩, all := ⟨mall, rfl⟩, tup := ⟨_, _, _, mlt, rfl, rfl, (by show 8 ≤ sizeLine; decide), .cons ⟨_, rfl⟩ (.cons ⟨_, rfl⟩ (.cons ⟨_, rfl⟩ (.cons ⟨_, rfl⟩ (.cons ⟨_, rfl⟩ (.cons ⟨_, rfl⟩ (.cons ⟨_, rfl⟩ (.cons ⟨_, rfl⟩ (.nil))))))))⟩, con := conM, sm := ⟨⟨mrd, mga⟩, msm, ⟨_, a4⟩, k4⟩ }
  have bIM := b4
  have B : DbTxt K mg (⟨CD, CT, EM, EP, EO⟩ : Cs) := ⟨⟨pgD, hdD, poD, saD⟩, ⟨pgT, hdT, poT, saT⟩, nD0, nD1, nD2, nD3, nD4, nD5, nT0, nT1, nT2, ⟨_, PySem.W.mg_of X G gC0, ⟨_, rfl⟩⟩, ⟨_, PySem.W.mg_of X G gC1, ⟨_, rfl⟩⟩, ⟨_, PySem.W.mg_of X G gC2, ⟨_, rfl⟩⟩⟩
  have W : WTxt K (⟨CD, CT, EM, EP, EO⟩ : Cs) CW := ⟨⟨pgW, hdW, poW, saW⟩, nW0, nW1, nW2, nW3, mT, sT⟩
  have OEM : OexC K EM := ⟨⟨_, _, _, _, _, _, _, _, _, _, _, _, _, _, _, xEM, by rfl⟩, saEM, ebEM, etEM, kEM⟩
  have XEM : XfC K EM := ⟨sgEM, shEM, ebEM, ehEM⟩
  have OEP : OexC K EP := ⟨⟨_, _, _, _, _, _, _, _, _, _, _, _, _, _, _, xEP, by rfl⟩, saEP, ebEP, etEP, kEP⟩
  have XEP : XfC K EP := ⟨sgEP, shEP, ebEP, ehEP⟩
  have OEO : OexC K EO := ⟨⟨_, _, _, _, _, _, _, _, _, _, _, _, _, _, _, xEO, by rfl⟩, saEO, ebEO, etEO, kEO⟩
  have XEO : XfC K EO := ⟨sgEO, shEO, ebEO, ehEO⟩
  have OEW : OexC K EW := ⟨⟨_, _, _, _, _, _, _, _, _, _, _, _, _, _, _, xEW, by rfl⟩, saEW, ebEW, etEW, kEW⟩
  have XEW : XfC K EW := ⟨sgEW, shEW, ebEW, ehEW⟩
  have OEB : OexC K EB := ⟨⟨_, _, _, _, _, _, _, _, _, _, _, _, _, _, _, xEB, by rfl⟩, saEB, ebEB, etEB, kEB⟩
  have XEB : XfC K EB := ⟨sgEB, shEB, ebEB, ehEB⟩
  have OER : OexC K ER := ⟨⟨_, _, _, _, _, _, _, _, _, _, _, _, _, _, _, xER, by rfl⟩, saER, ebER, etER, kER⟩
  have XER : XfC K ER := ⟨sgER, shER, ebER, ehER⟩
  have OEF : OexC K EF := ⟨⟨_, _, _, _, _, _, _, _, _, _, _, _, _, _, _, xEF, by rfl⟩, saEF, ebEF, etEF, kEF⟩
  have XEF : XfC K EF := ⟨sgEF, shEF, ebEF, ehEF⟩
  have yEM_CI := exm_pair ebCI ecCI etCI uEM_CI
  have yEP_CI := exm_pair ebCI ecCI etCI uEP_CI
  have yEO_CI := exm_pair ebCI ecCI etCI uEO_CI
  have yEN_EN := exm_pair ebEN ecEN etEN uEN_EN
  have yEF_EF := exm_pair ebEF ecEF etEF uEF_EF
  have yEM_EF := exm_pair ebEF ecEF etEF uEM_EF
  have yEM_EM := exm_pair ebEM ecEM etEM uEM_EM
  have yEP_EF := exm_pair ebEF ecEF etEF uEP_EF
  have yEP_EM := exm_pair ebEM ecEM etEM uEP_EM
  have yEP_EP := exm_pair ebEP ecEP etEP uEP_EP
  have yEO_EF := exm_pair ebEF ecEF etEF uEO_EF
  have yEO_EM := exm_pair ebEM ecEM etEM uEO_EM
  have yEO_EP := exm_pair ebEP ecEP etEP uEO_EP
  have yEO_EO := exm_pair ebEO ecEO etEO uEO_EO
  have yEF_EO := exm_pair ebEO ecEO etEO uEF_EO
  have yEF_EM := exm_pair ebEM ecEM etEM uEF_EM
  have yEF_EP := exm_pair ebEP ecEP etEP uEF_EP
  have yEF_ER := exm_pair ebER ecER etER uEF_ER
  have yEF_EW := exm_pair ebEW ecEW etEW uEF_EW
  have Z : Cl13 K mg (⟨CD, CT, EM, EP, EO⟩ : Cs) CI EN EF := ⟨(PySem.W.mg_of X G gI), (PySem.W.mg_of X G gEN), (PySem.W.mg_of X G gEF), (PySem.W.mg_of X G gEM), (PySem.W.mg_of X G gEP), (PySem.W.mg_of X G gEO), XEF, XEM, XEP, XEO, n1EF, n2EM, n1EM, n2EP, n1EP, n2EO, n1EO, yEM_CI, yEP_CI, yEO_CI, yEN_EN, yEF_EF, yEM_EF, yEM_EM, yEP_EF, yEP_EM, yEP_EP, yEO_EF, yEO_EM, yEO_EP, yEO_EO⟩
  have hxF : PySem.W.exmAny K (.ref EF) [.ref EO, .ref EM, .ref EP, .ref ER, .ref EW, .ref EF] = some true := exmAny_two yEF_EO (exmAny_two yEF_EM (exmAny_two yEF_EP (exmAny_two yEF_ER (exmAny_two yEF_EW (exmAny_two yEF_EF rfl)))))
  have D_law_pool : Df l.prog w K mg base 1 "_law_pool" ["script", "at"] (spPool K) := ⟨f0, _, ok_pool F0 T, PySem.W.mg_of X G a0, k0, b0⟩
  have D_law_draw : Df l.prog w K mg base 1 "_law_draw" ["pool", "many"] spDraw := ⟨f1, _, ok_draw F1 T, PySem.W.mg_of X G a1, k1, b1⟩
  have D_law_word : Df l.prog w K mg base 2 "_law_word" ["pool"] spWord := ⟨f2, _, ok_word F2 T D_law_draw, PySem.W.mg_of X G a2, k2, b2⟩
  have D_is_word : Df l.prog w K mg base 1 "is_word" ["thing"] (spIsWord K) := ⟨f3, _, ok_is_word F3 T, PySem.W.mg_of X G a3, k3, b3⟩
  have F_is_mode : FnOk l.prog w K mg base CX0 1 f4 _ ["thing"] (spIsMode K) := ok_is_mode F4 T M
  have E_M : EDf l.prog w K mg base 1 "Missing" EM "mode" fsM := ⟨f5, _, ⟨PySem.W.mg_of X G gEM, OEM, XEM, a5, t5⟩, ok_Missing F5 OEM n1EM n2EM, b5⟩
  have E_P : EDf l.prog w K mg base 1 "Present" EP "mode" fsP := ⟨f6, _, ⟨PySem.W.mg_of X G gEP, OEP, XEP, a6, t6⟩, ok_Present F6 OEP n1EP n2EP, b6⟩
  have E_O : EDf l.prog w K mg base 1 "Doomed" EO "first" fsD := ⟨f7, _, ⟨PySem.W.mg_of X G gEO, OEO, XEO, a7, t7⟩, ok_Doomed F7 OEO n1EO n2EO, b7⟩
  have E_W : EDf l.prog w K mg base 1 "Waits" EW "record" fsWt := ⟨f8, _, ⟨PySem.W.mg_of X G gEW, OEW, XEW, a8, t8⟩, ok_Waits F8 OEW n1EW n2EW, b8⟩
  have E_B : EDf l.prog w K mg base 1 "BadWord" EB "word" fsB := ⟨f9, _, ⟨PySem.W.mg_of X G gEB, OEB, XEB, a9, t9⟩, ok_BadWord F9 OEB n1EB, b9⟩
  have E_R : EDf0 l.prog w K mg base 1 "Refused" ER fsRf := ⟨f10, _, ⟨PySem.W.mg_of X G gER, OER, XER, a10, t10⟩, ok_Refused F10 OER n2ER, b10⟩
  have E_Rh : EDh0 l.prog w K mg base 1 "Refused" ER fsRf := ⟨f10, _, ⟨PySem.W.mg_of X G gER, OER, XER, a10, t10⟩, ok_RefusedH F10 OER n2ER, b10⟩
  have E_F : EDf l.prog w K mg base 1 "Failed" EF "word" fsB := ⟨f11, _, ⟨PySem.W.mg_of X G gEF, OEF, XEF, a11, t11⟩, ok_Failed F11 OEF n1EF, b11⟩
  have C_W : CDfA l.prog w K mg base 1 "Write" CW ["self", "record", "value", "holder"] (spWr CW) := ⟨f12, _, ⟨mkW, a12, i12, kpW⟩, ok_wr_init F12 W, b12, PySem.W.mg_of X G gW⟩
  have C_T : CDf l.prog w K mg base 1 "Transaction" CT (spTrInit (⟨CD, CT, EM, EP, EO⟩ : Cs)) := ⟨f13, _, ⟨mkT, a13, i13, kpT⟩, ok_tr3_init F13 B, b13, PySem.W.mg_of X G gT⟩
  have C_D : CDf l.prog w K mg base 1 "Database" CD (spDbG (⟨CD, CT, EM, EP, EO⟩ : Cs) CW) := ⟨f14, _, ⟨mkD, a14, i14, kpD⟩, ok_dbG_init F14 B, b14, PySem.W.mg_of X G gDb⟩
  have M_tdoom : MDf l.prog w K mg base CX0 1 CT "doom" ["self", "first"] [] (spTrDoomG (⟨CD, CT, EM, EP, EO⟩ : Cs)) := ⟨f15, _, [], ok_tr_doomG F15 B, ⟨a15, i15, k15⟩, b15, .nil⟩
  have M_tdoomH : MDfH l.prog w K mg base 1 CT "doom" ["self", "first"] (spTrDoomG (⟨CD, CT, EM, EP, EO⟩ : Cs)) := ⟨f15, _, ok_tr_doomH F15 B, ⟨a15, i15, k15⟩, b15⟩
  have M_enter_free : MDf l.prog w K mg base (L2.CX l.prog w) 3 CD "_enter_free" ["self", "mode"] [] (spFree (⟨CD, CT, EM, EP, EO⟩ : Cs)) := ⟨f16, _, [], ok_enter_free F16 B M E_M kEM C_T, ⟨a16, i16, k16⟩, b16, .nil⟩
  have M_enter_present : MDf l.prog w K mg base (L2.CX l.prog w) 3 CD "_enter_present" ["self", "mode", "present"] [] (spPresG (⟨CD, CT, EM, EP, EO⟩ : Cs)) := ⟨f17, _, [], ok_presG F17 T B M E_P E_O kEP kEO C_T, ⟨a17, i17, k17⟩, b17, .nil⟩
  have M_enter : MDf l.prog w K mg base (L2.CX l.prog w) 4 CD "enter" ["self", "mode"] [] (spEnterG (⟨CD, CT, EM, EP, EO⟩ : Cs) CW) := ⟨f18, _, [], ok_enterG F18 B M F_is_mode bIM M_enter_free M_enter_present, ⟨a18, i18, k18⟩, b18, .nil⟩
  have P_reason : PDf l.prog w K mg base 1 CD "reason" (spLookG (⟨CD, CT, EM, EP, EO⟩ : Cs) CW 0 fun S _ v => v = oV (eT S.top).why) := ⟨p19, f19, _, ⟨a19, g19, t19, _, r19⟩, ok_reasonG F19 B, b19⟩
  have P_is_doomed : PDf l.prog w K mg base 3 CD "is_doomed" (spLookG (⟨CD, CT, EM, EP, EO⟩ : Cs) CW 0 fun S _ v => v = .bl (eT S.top).why.isSome) := ⟨p20, f20, _, ⟨a20, g20, t20, _, r20⟩, ok_is_doomedG F20 B P_reason, b20⟩
  have P_is_open : PDf l.prog w K mg base 1 CD "is_open" (spLookG (⟨CD, CT, EM, EP, EO⟩ : Cs) CW 0 fun S _ v => v = .bl S.top.isSome) := ⟨p21, f21, _, ⟨a21, g21, t21, _, r21⟩, ok_is_openG F21 B, b21⟩
  have P_levels : PDf l.prog w K mg base 1 CD "levels" (spLookG (⟨CD, CT, EM, EP, EO⟩ : Cs) CW 0 fun S _ v => v = .int (eT S.top).length) := ⟨p22, f22, _, ⟨a22, g22, t22, _, r22⟩, ok_levelsG F22 T B, b22⟩
  have P_depth : PDf l.prog w K mg base 1 CD "depth" (spLookG (⟨CD, CT, EM, EP, EO⟩ : Cs) CW 0 fun S _ v => v = .int S.bl.length) := ⟨p23, f23, _, ⟨a23, g23, t23, _, r23⟩, ok_depthG F23 T B, b23⟩
  have M_undo : MDf l.prog w K mg base CX0 1 CD "_undo" ["self", "transaction", "start"] [] (spUndoG (⟨CD, CT, EM, EP, EO⟩ : Cs) CW) := ⟨f24, _, [], ok_undoG F24 T B W, ⟨a24, i24, k24⟩, b24, .nil⟩
  have M_undoH : MDfH l.prog w K mg base 1 CD "_undo" ["self", "transaction", "start"] (spUndoG (⟨CD, CT, EM, EP, EO⟩ : Cs) CW) := ⟨f24, _, ok_undoH F24 T B W, ⟨a24, i24, k24⟩, b24⟩
  have M_keep : MDf l.prog w K mg base CX0 1 CD "_keep" ["self", "transaction"] [] (spKeepG (⟨CD, CT, EM, EP, EO⟩ : Cs) CW) := ⟨f25, _, [], ok_keepG F25 B W, ⟨a25, i25, k25⟩, b25, .nil⟩
  have M_keepH : MDfH l.prog w K mg base 1 CD "_keep" ["self", "transaction"] (spKeepG (⟨CD, CT, EM, EP, EO⟩ : Cs) CW) := ⟨f25, _, ok_keepH F25 B W, ⟨a25, i25, k25⟩, b25⟩
  have M_end_level : MDf l.prog w K mg base CX0 2 CD "_end_level" ["self", "transaction", "error", "commits"] [] (spEndLG (⟨CD, CT, EM, EP, EO⟩ : Cs) CW) := ⟨f26, _, [], ok_end_levelG F26 B M_keep M_undo, ⟨a26, i26, k26⟩, b26, .nil⟩
  have M_end_levelH : MDfH l.prog w K mg base 2 CD "_end_level" ["self", "transaction", "error", "commits"] (spEndLG (⟨CD, CT, EM, EP, EO⟩ : Cs) CW) := ⟨f26, _, ok_end_levelH F26 B M_keepH M_undoH, ⟨a26, i26, k26⟩, b26⟩
  have M_end_block : MDf l.prog w K mg base CX0 3 CD "_end_block" ["self", "error", "commits"] [] (spEndBG (⟨CD, CT, EM, EP, EO⟩ : Cs) CW) := ⟨f27, _, [], ok_end_blockG F27 B M_tdoom M_end_level, ⟨a27, i27, k27⟩, b27, .nil⟩
  have M_end_blockH : MDfH l.prog w K mg base 3 CD "_end_block" ["self", "error", "commits"] (spEndBG (⟨CD, CT, EM, EP, EO⟩ : Cs) CW) := ⟨f27, _, ok_end_blockH F27 B M_tdoomH M_end_levelH, ⟨a27, i27, k27⟩, b27⟩
  have M_above : MDfH l.prog w K mg base 4 CD "_leave_above" ["self", "floor", "word"] (spAbove13 (⟨CD, CT, EM, EP, EO⟩ : Cs) CW) := ⟨f28, _, ok_above13 F28 T B M_end_blockH, ⟨a28, i28, k28⟩, b28⟩
  have M_leave1 : MDf l.prog w K mg base (L2.CX l.prog w) 4 CD "leave" ["self", "error", "commits"] [.bl true] (spLeaveG K (⟨CD, CT, EM, EP, EO⟩ : Cs) CW EB EN ER) := ⟨f29, _, dsL1, ok_leaveG F29 T B P_reason M_end_block D_is_word E_B kEB E_O kEO E_R xEN (PySem.W.mg_of X G gEN) kEN ebEN etEN, ⟨a29, i29, k29⟩, bL1, vL1⟩
  have M_leave0 : MDf l.prog w K mg base (L2.CX l.prog w) 4 CD "leave" ["self", "error", "commits"] [.non, .bl true] (spLeaveG K (⟨CD, CT, EM, EP, EO⟩ : Cs) CW EB EN ER) := ⟨f29, _, dsL0, ok_leaveG F29 T B P_reason M_end_block D_is_word E_B kEB E_O kEO E_R xEN (PySem.W.mg_of X G gEN) kEN ebEN etEN, ⟨a29, i29, k29⟩, bL0, vL0⟩
  have K_leave0 : KDf l.prog w K mg base (L2.CX l.prog w) 4 CD "leave" 0 ["commits"] (fun vs zs => vs ++ [.non] ++ zs) ["self", "error", "commits"] (spLeaveG K (⟨CD, CT, EM, EP, EO⟩ : Cs) CW EB EN ER) := ⟨f29, _, _, ok_leaveG F29 T B P_reason M_end_block D_is_word E_B kEB E_O kEO E_R xEN (PySem.W.mg_of X G gEN) kEN ebEN etEN, ⟨a29, i29, k29⟩, bK0?⟩
  have M_leave1N : MDf l.prog w K mg base (L2N.CX l.prog w) 4 CD "leave" ["self", "error", "commits"] [.bl true] (spLeaveG K (⟨CD, CT, EM, EP, EO⟩ : Cs) CW EB EN ER) := ⟨f29, _, dsL1, ok_leaveN F29 T B P_reason M_end_block D_is_word E_B kEB E_O kEO E_R xEN (PySem.W.mg_of X G gEN) kEN ebEN etEN, ⟨a29, i29, k29⟩, bL1, vL1⟩
  have M_doom : MDf l.prog w K mg base (L2.CX l.prog w) 3 CD "doom" ["self", "first"] [] (spDoomG K (⟨CD, CT, EM, EP, EO⟩ : Cs) CW EB) := ⟨f30, _, dsD, ok_doomG F30 B D_is_word M_tdoom E_B kEB, ⟨a30, i30, k30⟩, b30, vD⟩
  have M_is_holder : MDf l.prog w K mg base CX0 1 CD "_is_holder" ["self", "record"] [] (spLookL (⟨CD, CT, EM, EP, EO⟩ : Cs) CW 1 fun S us v => ∃ r, us = [.str r] ∧ (∃ T ∈ S.ts, ofR T.e.own r ≠ []) ∧ v = .bl (S.mine r)) := ⟨f31, _, [], ok_is_holderG F31 B W, ⟨a31, i31, k31⟩, b31, .nil⟩
  have M_holds : MDf l.prog w K mg base CX0 2 CD "holds" ["self", "record"] [] (spLookL (⟨CD, CT, EM, EP, EO⟩ : Cs) CW 1 fun S us v => ∃ r, us = [.str r] ∧ v = .bl (S.mine r)) := ⟨f32, _, [], ok_holdsG F32 B M_is_holder, ⟨a32, i32, k32⟩, b32, .nil⟩
  have M_has_suspended : MDf l.prog w K mg base CX0 2 CD "has_suspended" ["self", "record"] [] (spLookL (⟨CD, CT, EM, EP, EO⟩ : Cs) CW 1 fun S us v => ∃ r, us = [.str r] ∧ v = .bl (S.wait r)) := ⟨f33, _, [], ok_has_suspendedG F33 B M_is_holder, ⟨a33, i33, k33⟩, b33, .nil⟩
  have M_held : MDf l.prog w K mg base CX0 3 CD "held_records" ["self"] [] (spRecsG (⟨CD, CT, EM, EP, EO⟩ : Cs) CW SG.mine) := ⟨f34, _, [], ok_held_recordsG F34 T B M_holds, ⟨a34, i34, k34⟩, b34, .nil⟩
  have M_outer : MDf l.prog w K mg base CX0 3 CD "outer_records" ["self"] [] (spRecsG (⟨CD, CT, EM, EP, EO⟩ : Cs) CW SG.wait) := ⟨f35, _, [], ok_outer_recordsG F35 T B M_has_suspended, ⟨a35, i35, k35⟩, b35, .nil⟩
  have D_law_enter : Df l.prog w K mg base 5 "_law_enter" ["db", "mode"] (spEnter13 (⟨CD, CT, EM, EP, EO⟩ : Cs) CW) := ⟨f36, _, ok_enter13 F36 B Z M_enter, PySem.W.mg_of X G a36, k36, b36⟩
  have D_law_bare : Df l.prog w K mg base 5 "_law_bare" ["db"] (spBare13 (⟨CD, CT, EM, EP, EO⟩ : Cs) CW) := ⟨f37, _, ok_bare13 F37 B Z M_leave0, PySem.W.mg_of X G a37, k37, b37⟩
  have D_law_ways : Df l.prog w K mg base 3 "_law_ways" ["pool", "modes"] (spWays13 K) := ⟨f38, _, ok_ways13 F38 T D_law_draw D_law_word, PySem.W.mg_of X G a38, k38, b38⟩
  have K_within : KDfS l.prog w K mg base (L2.CX l.prog w) 7 CD "within" 2 ["keep"] (fun vs zs => vs ++ zs ++ [.bl true]) ["self", "mode", "deed", "keep", "commits"] ["notes", "ways"] (spWithin13 (⟨CD, CT, EM, EP, EO⟩ : Cs) CW EF) := ⟨f39, _, _, ok_within13 F39 T B M_enter M_above M_end_blockH K_leave0 E_Rh XEF n1EF E_F kEF (PySem.W.mg_of X G gEO) (PySem.W.mg_of X G gEM) (PySem.W.mg_of X G gEP) (PySem.W.mg_of X G gER) (PySem.W.mg_of X G gEW) (PySem.W.mg_of X G gEF) hxF (fun cl f c1 => ok_deed13 T B D_law_enter D_law_bare M_leave1N E_F kEF cl f c1), ⟨a39, i39, k39⟩, bKw⟩
  have D_law_call : Df l.prog w K mg base 8 "_law_call" ["db", "mode", "ways", "listed", "notes"] (spCall13 (⟨CD, CT, EM, EP, EO⟩ : Cs) CW Pt) := ⟨f40, _, ok_call13 l40 c40 (hTB (C1, Pt) (List.mem_singleton.mpr rfl)) B Z K_within, PySem.W.mg_of X G a40, k40, b40⟩
  exact ok_law13 F41 T B C_D D_law_pool D_law_draw D_law_enter D_law_bare D_law_ways D_law_call P_is_open P_levels P_depth M_held M_outer M_leave1
theorem walk {l : PySem.W.OpenLaw} {q : Program} {loose : List Str} {XP : (Str → Option Value) → Heap → Prop} {YP : World → Heap → Prop} {d : DefRec} {K : Params → PySem.W.Frag} (hn : l.most = some 63) (hdf : d.params.defaults = [])
    (hY : ∀ (w : World) (h : Heap), YP w h → (K w.params).In h)
    (F : ∀ (w : World) (mg : Str → Option Value) (fa : Addr) (h : Heap), YP w h → (K w.params).In h → h.Ns mainGlobals mg → mg d.name = some (.ref fa) → LamX.LawAtS l w (K w.params) CX0 9 63 "script" mg fa h) :
    PySem.W.WalkO q loose XP YP l.row.toRowW d [] (fun f vs => PySem.call f vs) :=
  LamX.walk_ofTs (n := 63) (k := 9) (x := "script") (CX := fun _ => CX0) hn (by decide) hdf ⟨rfl, by decide, by decide⟩ hY F fun _ _ _ _ _ z => z
end IC
open PySem PySem.W PyProof.Rows
set_option maxRecDepth 100000 in
set_option maxHeartbeats 0 in
theorem PySem.Challenge.cw_innercommits_k13_within_leaves_all_holds : PySem.Challenge.rw_innercommits_k13_within_leaves_all.Holds := by
  w_on; o_law; k_head; (case hw => w_witness2)
  k_fill
  refine IC.walk (l := PySem.Challenge.rw_innercommits_k13_within_leaves_all) rfl rfl (fun w h Y => PySem.W.km_in_of Y) ?F
  case F =>
    intro w mg fa h Y KX G hmg
    refine' IC.all_mk KX G hmg ?a0 ?l0 ?c0 ?k0 ?a1 ?l1 ?c1 ?k1 ?a2 ?l2 ?c2 ?k2 ?a3 ?l3 ?c3 ?k3 ?a4 ?l4 ?c4 ?k4 ?a5 ?l5 ?c5 ?k5 ?t5 ?a6 ?l6 ?c6 ?k6 ?t6 ?a7 ?l7 ?c7 ?k7 ?t7 ?a8 ?l8 ?c8 ?k8 ?t8 ?a9 ?l9 ?c9 ?k9 ?t9 ?a10 ?l10 ?c10 ?k10 ?t10 ?a11 ?l11 ?c11 ?k11 ?t11 ?a12 ?l12 ?c12 ?k12 ?i12 ?a13 ?l13 ?c13 ?k13 ?i13 ?a14 ?l14 ?c14 ?k14 ?i14 ?a15 ?l15 ?c15 ?k15 ?i15 ?a16 ?l16 ?c16 ?k16 ?i16 ?a17 ?l17 ?c17 ?k17 ?i17 ?a18 ?l18 ?c18 ?k18 ?i18 ?a19 ?g19 ?t19 ?r19 ?l19 ?c19 ?k19 ?a20 ?g20 ?t20 ?r20 ?l20 ?c20 ?k20 ?a21 ?g21 ?t21 ?r21 ?l21 ?c21 ?k21 ?a22 ?g22 ?t22 ?r22 ?l22 ?c22 ?k22 ?a23 ?g23 ?t23 ?r23 ?l23 ?c23 ?k23 ?a24 ?l24 ?c24 ?k24 ?i24 ?a25 ?l25 ?c25 ?k25 ?i25 ?a26 ?l26 ?c26 ?k26 ?i26 ?a27 ?l27 ?c27 ?k27 ?i27 ?a28 ?l28 ?c28 ?k28 ?i28 ?a29 ?l29 ?c29 ?k29 ?i29 ?a30 ?l30 ?c30 ?k30 ?i30 ?a31 ?l31 ?c31 ?k31 ?i31 ?a32 ?l32 ?c32 ?k32 ?i32 ?a33 ?l33 ?c33 ?k33 ?i33 ?a34 ?l34 ?c34 ?k34 ?i34 ?a35 ?l35 ?c35 ?k35 ?i35 ?a36 ?l36 ?c36 ?k36 ?a37 ?l37 ?c37 ?k37 ?a38 ?l38 ?c38 ?k38 ?a39 ?l39 ?c39 ?k39 ?i39 ?a40 ?l40 ?c40 ?k40 ?a41 ?l41 ?c41 ?k41 ?z_int ?z_len ?z_abs ?z_range ?z_max ?z_min ?z_isi ?z_str ?z_all ?z_sorted ?z_bool ?z_set ?z_list ?mo ?mrd ?mga ?mall ?mlt ?m0 ?m1 ?m2 ?m3 ?m4 ?m5 ?m6 ?m7 ?msm ?gDb ?gT ?gW ?gI ?gEM ?xEM ?saEM ?sgEM ?shEM ?n1EM ?n2EM ?kEM ?ebEM ?etEM ?ehEM ?ecEM ?gEP ?xEP ?saEP ?sgEP ?shEP ?n1EP ?n2EP ?kEP ?ebEP ?etEP ?ehEP ?ecEP ?gEO ?xEO ?saEO ?sgEO ?shEO ?n1EO ?n2EO ?kEO ?ebEO ?etEO ?ehEO ?ecEO ?gEW ?xEW ?saEW ?sgEW ?shEW ?n1EW ?n2EW ?kEW ?ebEW ?etEW ?ehEW ?ecEW ?gEB ?xEB ?saEB ?sgEB ?shEB ?n1EB ?kEB ?ebEB ?etEB ?ehEB ?ecEB ?gER ?xER ?saER ?sgER ?shER ?n2ER ?kER ?ebER ?etER ?ehER ?ecER ?gEF ?xEF ?saEF ?sgEF ?shEF ?n1EF ?kEF ?ebEF ?etEF ?ehEF ?ecEF ?gEN ?xEN ?kEN ?ebEN ?etEN ?ecEN ?ebCI ?etCI ?ecCI ?uEM_CI ?uEP_CI ?uEO_CI ?uEN_EN ?uEF_EF ?uEM_EF ?uEM_EM ?uEP_EF ?uEP_EM ?uEP_EP ?uEO_EF ?uEO_EM ?uEO_EP ?uEO_EO ?uEF_EO ?uEF_EM ?uEF_EP ?uEF_ER ?uEF_EW ?pgD ?hdD ?poD ?saD ?mkD ?kpD ?pgT ?hdT ?poT ?saT ?mkT ?kpT ?pgW ?hdW ?poW ?saW ?mkW ?kpW ?nD0 ?nD1 ?nD2 ?nD3 ?nD4 ?nD5 ?nT0 ?nT1 ?nT2 ?nW0 ?nW1 ?nW2 ?nW3 ?mT ?sT ?nsq ?gC0 ?gC1 ?gC2 ?lTL ?hKL ?lTD ?hKLW ?lC1 ?pC ?cH ?nT ?hT0
    (case mo => k_is)
    (case mrd => k_is)
    (case mga => k_is)
    (case mall => k_is)
    (case mlt => k_is)
    (case m0 => k_is)
    (case m1 => k_is)
    (case m2 => k_is)
    (case m3 => k_is)
    (case m4 => k_is)
    (case m5 => k_is)
    (case m6 => k_is)
    (case m7 => k_is)
    (case msm => k_is)
    (case gDb => k_is)
    (case gT => k_is)
    (case gW => k_is)
    (case gI => k_is)
    (case gEM => k_is)
    (case xEM => k_is)
    (case saEM => k_is)
    (case sgEM => k_is)
    (case shEM => k_is)
    (case n1EM => k_is)
    (case n2EM => k_is)
    (case kEM => k_is)
    (case ebEM => k_is)
    (case etEM => k_is)
    (case ehEM => k_is)
    (case ecEM => k_is)
    (case gEP => k_is)
    (case xEP => k_is)
    (case saEP => k_is)
    (case sgEP => k_is)
    (case shEP => k_is)
    (case n1EP => k_is)
    (case n2EP => k_is)
    (case kEP => k_is)
    (case ebEP => k_is)
    (case etEP => k_is)
    (case ehEP => k_is)
    (case ecEP => k_is)
    (case gEO => k_is)
    (case xEO => k_is)
    (case saEO => k_is)
    (case sgEO => k_is)
    (case shEO => k_is)
    (case n1EO => k_is)
    (case n2EO => k_is)
    (case kEO => k_is)
    (case ebEO => k_is)
    (case etEO => k_is)
    (case ehEO => k_is)
    (case ecEO => k_is)
    (case gEW => k_is)
    (case xEW => k_is)
    (case saEW => k_is)
    (case sgEW => k_is)
    (case shEW => k_is)
    (case n1EW => k_is)
    (case n2EW => k_is)
    (case kEW => k_is)
    (case ebEW => k_is)
    (case etEW => k_is)
    (case ehEW => k_is)
    (case ecEW => k_is)
    (case gEB => k_is)
    (case xEB => k_is)
    (case saEB => k_is)
    (case sgEB => k_is)
    (case shEB => k_is)
    (case n1EB => k_is)
    (case kEB => k_is)
    (case ebEB => k_is)
    (case etEB => k_is)
    (case ehEB => k_is)
    (case ecEB => k_is)
    (case gER => k_is)
    (case xER => k_is)
    (case saER => k_is)
    (case sgER => k_is)
    (case shER => k_is)
    (case n2ER => k_is)
    (case kER => k_is)
    (case ebER => k_is)
    (case etER => k_is)
    (case ehER => k_is)
    (case ecER => k_is)
    (case gEF => k_is)
    (case xEF => k_is)
    (case saEF => k_is)
    (case sgEF => k_is)
    (case shEF => k_is)
    (case n1EF => k_is)
    (case kEF => k_is)
    (case ebEF => k_is)
    (case etEF => k_is)
    (case ehEF => k_is)
    (case ecEF => k_is)
    (case gEN => k_is)
    (case xEN => k_exc)
    (case kEN => k_is)
    (case ebEN => k_is)
    (case etEN => k_is)
    (case ecEN => k_is)
    (case ebCI => k_is)
    (case etCI => k_is)
    (case ecCI => k_is)
    (case uEM_CI => k_is)
    (case uEP_CI => k_is)
    (case uEO_CI => k_is)
    (case uEN_EN => k_is)
    (case uEF_EF => k_is)
    (case uEM_EF => k_is)
    (case uEM_EM => k_is)
    (case uEP_EF => k_is)
    (case uEP_EM => k_is)
    (case uEP_EP => k_is)
    (case uEO_EF => k_is)
    (case uEO_EM => k_is)
    (case uEO_EP => k_is)
    (case uEO_EO => k_is)
    (case uEF_EO => k_is)
    (case uEF_EM => k_is)
    (case uEF_EP => k_is)
    (case uEF_ER => k_is)
    (case uEF_EW => k_is)
    (case pgD => k_is)
    (case hdD => k_is)
    (case poD => k_is)
    (case saD => k_is)
    (case mkD => k_is)
    (case kpD => k_is)
    (case pgT => k_is)
    (case hdT => k_is)
    (case poT => k_is)
    (case saT => k_is)
    (case mkT => k_is)
    (case kpT => k_is)
    (case pgW => k_is)
    (case hdW => k_is)
    (case poW => k_is)
    (case saW => k_is)
    (case mkW => k_is)
    (case kpW => k_is)
    (case nD0 => k_is)
    (case nD1 => k_is)
    (case nD2 => k_is)
    (case nD3 => k_is)
    (case nD4 => k_is)
    (case nD5 => k_is)
    (case nT0 => k_is)
    (case nT1 => k_is)
    (case nT2 => k_is)
    (case nW0 => k_is)
    (case nW1 => k_is)
    (case nW2 => k_is)
    (case nW3 => k_is)
    (case mT => k_is)
    (case sT => k_is)
    (case nsq => k_is)
    (case gC0 => k_is)
    (case gC1 => k_is)
    (case gC2 => k_is)
    (case a0 => k_is)
    (case l0 => k_is)
    (case c0 => k_is)
    (case k0 => k_is)
    (case a1 => k_is)
    (case l1 => k_is)
    (case c1 => k_is)
    (case k1 => k_is)
    (case a2 => k_is)
    (case l2 => k_is)
    (case c2 => k_is)
    (case k2 => k_is)
    (case a3 => k_is)
    (case l3 => k_is)
    (case c3 => k_is)
    (case k3 => k_is)
    (case a4 => k_is)
    (case l4 => k_is)
    (case c4 => k_is)
    (case k4 => k_is)
    (case a5 => k_is)
    (case l5 => k_is)
    (case c5 => k_is)
    (case k5 => k_is)
    (case t5 => k_is)
    (case a6 => k_is)
    (case l6 => k_is)
    (case c6 => k_is)
    (case k6 => k_is)
    (case t6 => k_is)
    (case a7 => k_is)
    (case l7 => k_is)
    (case c7 => k_is)
    (case k7 => k_is)
    (case t7 => k_is)
    (case a8 => k_is)
    (case l8 => k_is)
    (case c8 => k_is)
    (case k8 => k_is)
    (case t8 => k_is)
    (case a9 => k_is)
    (case l9 => k_is)
    (case c9 => k_is)
    (case k9 => k_is)
    (case t9 => k_is)
    (case a10 => k_is)
    (case l10 => k_is)
    (case c10 => k_is)
    (case k10 => k_is)
    (case t10 => k_is)
    (case a11 => k_is)
    (case l11 => k_is)
    (case c11 => k_is)
    (case k11 => k_is)
    (case t11 => k_is)
    (case a12 => k_is)
    (case l12 => k_is)
    (case c12 => k_is)
    (case k12 => k_is)
    (case i12 => k_is)
    (case a13 => k_is)
    (case l13 => k_is)
    (case c13 => k_is)
    (case k13 => k_is)
    (case i13 => k_is)
    (case a14 => k_is)
    (case l14 => k_is)
    (case c14 => k_is)
    (case k14 => k_is)
    (case i14 => k_is)
    (case a15 => k_is)
    (case l15 => k_is)
    (case c15 => k_is)
    (case k15 => k_is)
    (case i15 => k_is)
    (case a16 => k_is)
    (case l16 => k_is)
    (case c16 => k_is)
    (case k16 => k_is)
    (case i16 => k_is)
    (case a17 => k_is)
    (case l17 => k_is)
    (case c17 => k_is)
    (case k17 => k_is)
    (case i17 => k_is)
    (case a18 => k_is)
    (case l18 => k_is)
    (case c18 => k_is)
    (case k18 => k_is)
    (case i18 => k_is)
    (case a19 => k_is)
    (case g19 => k_is)
    (case t19 => k_is)
    (case r19 => k_is)
    (case l19 => k_is)
    (case c19 => k_is)
    (case k19 => k_is)
    (case a20 => k_is)
    (case g20 => k_is)
    (case t20 => k_is)
    (case r20 => k_is)
    (case l20 => k_is)
    (case c20 => k_is)
    (case k20 => k_is)
    (case a21 => k_is)
    (case g21 => k_is)
    (case t21 => k_is)
    (case r21 => k_is)
    (case l21 => k_is)
    (case c21 => k_is)
    (case k21 => k_is)
    (case a22 => k_is)
    (case g22 => k_is)
    (case t22 => k_is)
    (case r22 => k_is)
    (case l22 => k_is)
    (case c22 => k_is)
    (case k22 => k_is)
    (case a23 => k_is)
    (case g23 => k_is)
    (case t23 => k_is)
    (case r23 => k_is)
    (case l23 => k_is)
    (case c23 => k_is)
    (case k23 => k_is)
    (case a24 => k_is)
    (case l24 => k_is)
    (case c24 => k_is)
    (case k24 => k_is)
    (case i24 => k_is)
    (case a25 => k_is)
    (case l25 => k_is)
    (case c25 => k_is)
    (case k25 => k_is)
    (case i25 => k_is)
    (case a26 => k_is)
    (case l26 => k_is)
    (case c26 => k_is)
    (case k26 => k_is)
    (case i26 => k_is)
    (case a27 => k_is)
    (case l27 => k_is)
    (case c27 => k_is)
    (case k27 => k_is)
    (case i27 => k_is)
    (case a28 => k_is)
    (case l28 => k_is)
    (case c28 => k_is)
    (case k28 => k_is)
    (case i28 => k_is)
    (case a29 => k_is)
    (case l29 => k_is)
    (case c29 => k_is)
    (case k29 => k_is)
    (case i29 => k_is)
    (case a30 => k_is)
    (case l30 => k_is)
    (case c30 => k_is)
    (case k30 => k_is)
    (case i30 => k_is)
    (case a31 => k_is)
    (case l31 => k_is)
    (case c31 => k_is)
    (case k31 => k_is)
    (case i31 => k_is)
    (case a32 => k_is)
    (case l32 => k_is)
    (case c32 => k_is)
    (case k32 => k_is)
    (case i32 => k_is)
    (case a33 => k_is)
    (case l33 => k_is)
    (case c33 => k_is)
    (case k33 => k_is)
    (case i33 => k_is)
    (case a34 => k_is)
    (case l34 => k_is)
    (case c34 => k_is)
    (case k34 => k_is)
    (case i34 => k_is)
    (case a35 => k_is)
    (case l35 => k_is)
    (case c35 => k_is)
    (case k35 => k_is)
    (case i35 => k_is)
    (case a36 => k_is)
    (case l36 => k_is)
    (case c36 => k_is)
    (case k36 => k_is)
    (case a37 => k_is)
    (case l37 => k_is)
    (case c37 => k_is)
    (case k37 => k_is)
    (case a38 => k_is)
    (case l38 => k_is)
    (case c38 => k_is)
    (case k38 => k_is)
    (case a39 => k_is)
    (case l39 => k_is)
    (case c39 => k_is)
    (case k39 => k_is)
    (case i39 => k_is)
    (case a40 => k_is)
    (case l40 => k_is)
    (case c40 => k_is)
    (case k40 => k_is)
    (case a41 => k_is)
    (case l41 => k_is)
    (case c41 => k_is)
    (case k41 => k_is)
    (case z_int => k_is)
    (case z_len => k_is)
    (case z_abs => k_is)
    (case z_range => k_is)
    (case z_max => k_is)
    (case z_min => k_is)
    (case z_isi => k_is)
    (case z_str => k_is)
    (case z_all => k_is)
    (case z_sorted => k_is)
    (case z_bool => k_is)
    (case z_set => k_is)
    (case z_list => k_is)
    (case lTL => k_is)
    (case hKL => k_is)
    (case lTD => k_is)
    (case hKLW => k_is)
    (case lC1 => k_is)
    (case pC => exact rfl)
    (case cH => kernel_rfl)
    (case nT => kernel_rfl)
    (case hT0 => exact PySem.W.km_tabs_of Y _ (by k_mem))
#print axioms PySem.Challenge.cw_innercommits_k13_within_leaves_all_holds
