import PyProof.Rows.All
import Wide.All
import OpenK.AllK
import Wide.FinOn
import HandS.ForMost
import HandS.Wide
import HandS.IsInst
import HandS.Style
import HandS.Flow
import HandS.Evl
import HandS.Walk
import HandS.Codes
import PyProof.Rows.ReprR
import HandS.Exc
import HandS.TryMany
import HandS.ExcInit
import HandS.ExcField
import HandS.Property
import HandS.Defaults
import HandS.ClsMeth
import PyProof.ListStr
import HandS.CallSlots
import HandS.WordsExc
import PyProof.ReprBulk
import HandS.HotCalls
import HandS.SetKeys
import HandS.Star
import KE.KOpsOwn
import PyProof.Rows.SortShellAny
import HandS.Set
import HandS.Strs
import HandS.SetFor
import HandS.More
import PySem.Challenge.RW_innercommits_k03_values_of_records
set_option Elab.async false
set_option linter.all false
set_option maxRecDepth 100000
set_option maxHeartbeats 4000000
namespace IC
open PySem L2 TL
/-! ### heaps: all but the addresses of l stand as they stood -/
def Kp (l : List Addr) (H H' : Hp) : Prop := ∀ b o, H b = some o → b ∉ l → H' b = some o
theorem Kp.refl (l : List Addr) (H : Hp) : Kp l H H := fun _ _ e _ => e
theorem Kp.trans {l : List Addr} {H H1 H2 : Hp} (a : Kp l H H1) (b : Kp l H1 H2) : Kp l H H2 := fun c o e h => b c o (a c o e h) h
theorem Kp.same {l : List Addr} {H H' : Hp} (a : Same H H') : Kp l H H' := fun b o e _ => a b o e
theorem Kp.at_ {l : List Addr} {H : Hp} {p : Addr} {o : HO} (h : p ∈ l) : Kp l H (upd H p o) := fun b u e hb => by
  have q : b ≠ p := fun z => hb (by rw [z]; exact h)
  rw [upd_ne q]; exact e
theorem Kp.new {l : List Addr} {H : Hp} {p : Addr} {o : HO} (h : H p = none) : Kp l H (upd H p o) := fun b u e _ => by
  rw [upd_ne (ne_of_none e h)]; exact e
theorem Kp.mut {l : List Addr} {H H' : Hp} {p : Addr} {o : HO} (a : Kp l H H') (h : H p = none) : Kp l H (upd H' p o) := fun b u e hb => by
  rw [upd_ne (ne_of_none e h)]; exact a b u e hb
theorem Kp.mutAt {l : List Addr} {H H' : Hp} {p : Addr} {o : HO} (a : Kp l H H') (h : p ∈ l) : Kp l H (upd H' p o) := a.trans (Kp.at_ h)
theorem none_of {H : Hp} {p D : Addr} {o : HO} (h : upd H p o D = none) : p ≠ D ∧ H D = none := by
  have q : p ≠ D := ne_of_none upd_same h
  rw [upd_ne q.symm] at h
  exact ⟨q, h⟩
theorem Same.new {H : Hp} {p : Addr} {o : HO} (h : H p = none) : Same H (upd H p o) := fun b u e => by
  rw [upd_ne (ne_of_none e h)]; exact e

/-! ### the pool of numbers -/
def pl (a b c : Int) : List V := [.int a, .int b, .int c]
def PoolAt (H : Hp) (p : Addr) (n : Int) : Prop := ∃ a b c : Int, H p = some (.lst (pl a b c)) ∧ 0 ≤ a ∧ 0 ≤ b ∧ b < 2 ^ 63 ∧ 0 ≤ c ∧ c ≤ n
theorem PoolAt.up {H : Hp} {p : Addr} {n m : Int} (h : PoolAt H p n) (e : n ≤ m) : PoolAt H p m := by
  obtain ⟨a, b, c, h1, h2, h3, h4, h5, h6⟩ := h
  exact ⟨a, b, c, h1, h2, h3, h4, h5, Int.le_trans h6 e⟩
theorem PoolAt.mv {H H' : Hp} {p : Addr} {n : Int} (h : PoolAt H p n) (e : ∀ o, H p = some o → H' p = some o) : PoolAt H' p n := by
  obtain ⟨a, b, c, h1, h⟩ := h
  exact ⟨a, b, c, e _ h1, h⟩
/-- _law_draw(pool, many): a number below many; only the pool changes -/
def spDraw : Sp := fun vs H Q _ => ∃ (p : Addr) (m n : Int), vs = [.ref p, .int m] ∧ PoolAt H p n ∧ n < 1000000000 ∧ 0 < m ∧ m.natAbs < 2 ^ 200 ∧
  ∀ (d : Int) (o : HO), 0 ≤ d → d < m → PoolAt (upd H p o) p (n + 1) → Q (.int d) (upd H p o)
/-- _law_pool(script, at): a new pool -/
def spPool (K : PySem.W.Frag) : Sp := fun vs H Q _ => ∃ (a : Addr) (ns : List Int) (j : Nat), vs = [.ref a, .int j] ∧ SqL K H a (ns.map V.int) ∧ j < 64 ∧
  ∀ (p : Addr) (o : HO), H p = none → PoolAt (upd H p o) p 0 → Q (.ref p) (upd H p o)

/-- a def of the text by its name: it keeps the promise sp -/
structure Df (P : Program) (w : World) (K : PySem.W.Frag) (mg : Str → Option Value) (base : Heap) (k : Nat) (x : Str) (ps : List Str) (sp : Sp) : Prop where
  ex : ∃ (f : Addr) (fd : FuncData), FnOk P w K mg base CX0 k f fd ps sp ∧ mg x = some (.ref f) ∧ PySem.W.keepIn K (.ref f) = true ∧ Binds K fd ps []
theorem pe_df {X : Cx} {k j : Nat} {x : Str} {ps : List Str} {sp : Sp} {e : Expr} {es : List Expr} {t : TA} {p pos : Pos} (D : Df X.prog X.w X.K X.mg X.base k x ps sp) (hr : Room j X.A) (hk : k ≤ j) (hg : Gl X x)
    (ha : PA X (e :: es) t) (hdb : (x == ("__debug__" : Str)) = false := by decide) (he : starEach (e :: es) X.env = (false, eval e X.env) :: starEach es X.env := by rfl) (hpl : (backTo pos (starEach es X.env)).any (·.1) = false := by rfl) :
    PE X (.Call (.Name x p) (e :: es) [] pos) (tCall sp [] E0 t) := by
  obtain ⟨f, fd, F, hm, hkp, hb⟩ := D.ex
  exact pe_call F (hr.mono hk) hg hm hkp hb .nil pass0 ha hdb he hpl

/-! ### words -/
def Lt (c : Nat) : Prop := 97 ≤ c ∧ c ≤ 122
def IsW (z : Str) : Prop := 1 ≤ (tl z).length ∧ (tl z).length ≤ 8 ∧ ∀ c ∈ tl z, Lt c
def sgn (c : Nat) : Str := ⟨#[c]⟩
theorem joinL_one : ∀ cs : List Nat, joinL [] (cs.map fun c => [c]) = cs
  | [] => rfl
  | [c] => rfl
  | c :: d :: r => by
    show [c] ++ ([] ++ joinL [] ((d :: r).map fun c => [c])) = c :: d :: r
    rw [joinL_one (d :: r)]
    rfl
theorem tl_joined (cs : List Nat) : tl (Txt.join (Str.ofString "") (cs.map sgn)) = cs := by
  rw [join_eq, tl_join, List.map_map]
  exact joinL_one cs
def spWord : Sp := fun vs H Q _ => ∃ (p : Addr) (n : Int), vs = [.ref p] ∧ PoolAt H p n ∧ n < 900000000 ∧
  ∀ (z : Str) (H' : Hp), IsW z → PoolAt H' p (n + 9) → Kp [p] H H' → Q (.str z) H'
theorem abc_at (d : Int) (h0 : 0 ≤ d) (h1 : d < 26) : ∃ c, atI (Str.ofString "abcdefghijklmnopqrstuvwxyz").cps.toList d = some c ∧ Lt c := by
  have e : (Str.ofString "abcdefghijklmnopqrstuvwxyz").cps.toList = [97,98,99,100,101,102,103,104,105,106,107,108,109,110,111,112,113,114,115,116,117,118,119,120,121,122] := by decide +kernel
  rw [e]
  obtain ⟨j, rfl⟩ : ∃ j : Nat, d = j := ⟨d.toNat, by omega⟩
  have hj : j < 26 := by omega
  refine ⟨97 + j, atI_nat ?_, by unfold Lt; omega⟩
  have all : ∀ k : Fin 26, ([97,98,99,100,101,102,103,104,105,106,107,108,109,110,111,112,113,114,115,116,117,118,119,120,121,122] : List Nat)[k.val]? = some (97 + k.val) := by decide
  exact all ⟨j, hj⟩
/-- no text: a value of another type -/
def Oth (K : PySem.W.Frag) (H : Hp) (v : V) : Prop := ∃ T : String, TyX K H v (.type T) ∧ kitB T "str" = some false
def lB (c : Nat) : Bool := decide (97 ≤ c) && decide (c ≤ 122)
/-- is the text a word -/
def wB (z : Str) : Bool := decide (1 ≤ (tl z).length) && (decide ((tl z).length ≤ 8) && (tl z).all lB)
def spIsWord (K : PySem.W.Frag) : Sp := fun vs H Q _ => ∃ v : V, vs = [v] ∧ ((∃ z : Str, v = .str z ∧ (tl z).length ≤ 1000 ∧ ∀ H', Same H H' → Q (.bl (wB z)) H') ∨ (Oth K H v ∧ ∀ H', Same H H' → Q (.bl false) H'))
theorem len_le {z : Str} (h : (tl z).length ≤ 1000) : z.length ≤ sizeLine := by
  rw [len_tl]; exact Nat.le_of_lt (small1000 h)
theorem tl_one (c : Nat) : tl (⟨#[c]⟩ : Str) = [c] := rfl
theorem one_lt (c d : Nat) : ([c] < [d]) ↔ ¬ d ≤ c := by
  rw [List.cons_lt_cons_iff]
  simp
theorem lt_a (c : Nat) : decide ((⟨#[c]⟩ : Str).cps.toList < (Str.ofString "a").cps.toList) = !decide (97 ≤ c) := by
  have e : (Str.ofString "a").cps.toList = [97] := by decide +kernel
  rw [e]
  show decide ([c] < [97]) = _
  rw [Bool.eq_iff_iff, decide_eq_true_iff, Bool.not_eq_true', decide_eq_false_iff_not]
  exact one_lt c 97
theorem z_lt (c : Nat) : decide ((Str.ofString "z").cps.toList < (⟨#[c]⟩ : Str).cps.toList) = !decide (c ≤ 122) := by
  have e : (Str.ofString "z").cps.toList = [122] := by decide +kernel
  rw [e]
  show decide ([122] < [c]) = _
  rw [Bool.eq_iff_iff, decide_eq_true_iff, Bool.not_eq_true', decide_eq_false_iff_not]
  exact one_lt 122 c
theorem abc_mem (c : Nat) : decide (c ∈ (Str.ofString "abcdefghijklmnopqrstuvwxyz").cps.toList) = lB c := by
  have e : (Str.ofString "abcdefghijklmnopqrstuvwxyz").cps.toList = [97,98,99,100,101,102,103,104,105,106,107,108,109,110,111,112,113,114,115,116,117,118,119,120,121,122] := by decide +kernel
  rw [e]
  unfold lB
  rw [Bool.eq_iff_iff]
  simp
  omega
theorem shaped_all {xs : List PyData} (h : ∀ x ∈ xs, PyData.canLay0 x = true ∧ PyData.depth x ≤ 20) : PyData.canLayAll0 xs = true ∧ PyData.depthAll xs ≤ 20 := by
  induction xs with
  | nil => exact ⟨rfl, Nat.zero_le _⟩
  | cons x r ih =>
    have h1 := h x List.mem_cons_self
    have h2 := ih fun y hy => h y (List.mem_cons_of_mem _ hy)
    refine ⟨?_, ?_⟩
    · show (PyData.canLay0 x && PyData.canLayAll0 r) = true
      rw [h1.1, h2.1]
      rfl
    · show max (PyData.depth x) (PyData.depthAll r) ≤ 20
      omega
theorem shaped_list {xs : List PyData} (h : ∀ x ∈ xs, PyData.canLay0 x = true ∧ PyData.depth x ≤ 20) : SeqAt.shaped (.list xs) = true := by
  obtain ⟨h1, h2⟩ := shaped_all h
  show (PyData.canLay0 (.list xs) && decide (PyData.depth (.list xs) ≤ 64)) = true
  have e1 : PyData.canLay0 (.list xs) = true := h1
  have e2 : PyData.depth (.list xs) = PyData.depthAll xs + 1 := rfl
  rw [e1, e2, decide_eq_true (by omega)]
  rfl
theorem dpAll_strs {K : PySem.W.Frag} {H : Hp} : ∀ zs : List Str, DpAll K H (zs.map V.str) (zs.map PyData.str)
  | [] => .nil
  | z :: r => .cons (.str z) (dpAll_strs r)
def Okc (c : Nat) : Prop := c < 1114112
theorem strOk_of {z : Str} (h : ∀ c ∈ tl z, Okc c) : PyData.strOk z = true := by
  unfold PyData.strOk
  rw [Array.all_eq_true_iff_forall_mem]
  intro c hc
  exact decide_eq_true (h c (by simpa [tl] using hc))
theorem shaped_strs (zs : List Str) (h : ∀ z ∈ zs, ∀ c ∈ tl z, Okc c) : SeqAt.shaped (.list (zs.map PyData.str)) = true := shaped_list fun x hx => by
  obtain ⟨z, hz, rfl⟩ := List.mem_map.mp hx
  exact ⟨strOk_of (h z hz), Nat.zero_le _⟩
/-- a comprehension over range(n) whose element is a drawn letter -/
theorem lc_draw {te : TE} {gi : Nat} {σ : L2.St} {H1 : Hp} {D p : Addr} {Qd : Hp → Prop} (n : Nat) (m : Int) (hn : n ≤ 1000) (hp : PoolAt H1 p m) (hD : H1 D = none)
    (hte : ∀ (x : V) (m' : Int) (H : Hp) (Q : VK), PoolAt H p m' → m' ≤ m + n → (∀ c o, Lt c → PoolAt (upd H p o) p (m' + 1) → Q (.str (sgn c)) (upd H p o)) → te ((σ.set gi none).set gi (some x)) H Q)
    (hd : ∀ (cs : List Nat) (H' : Hp), cs.length = n → (∀ c ∈ cs, Lt c) → H' D = some (.lst ((cs.map sgn).map V.str)) → PoolAt H' p (m + n) → Kp [p] H1 H' → Qd H') :
    ∃ W : Nat → Nat → Hp → Prop, (∃ m, W 0 m (upd H1 D (.lst []))) ∧ ∀ i m H, W i m H →
      ((Itr 0 n).stop i H ∧ Qd H) ∨ ((Itr 0 n).go i H ∧ ∃ Nx : Hp → Prop, (∀ H', Nx H' → ∃ m', m' < m ∧ W (i + 1) m' H') ∧ ∀ x H', (Itr 0 n).yld i H x H' → gName gi x (wipe σ [gi]) H' fun σ2 H2 => wipe σ2 [gi] = wipe σ [gi] ∧ tYes σ2 H2 fun b H3 =>
        if b = true then te σ2 H3 fun y H4 => ∃ acc, H4 D = some (.lst acc) ∧ acc.length < sizeLine ∧ Nx (upd H4 D (.lst (acc ++ [y]))) else Nx H3) := by
  have hpD : p ≠ D := by
    obtain ⟨a, b, c, e, _⟩ := hp
    exact ne_of_none e hD
  refine lc_range (lo := 0) (n := n) (fun i H' => ∃ cs : List Nat, cs.length = i ∧ (∀ c ∈ cs, Lt c) ∧ H' D = some (.lst ((cs.map sgn).map V.str)) ∧ PoolAt H' p (m + i) ∧ Kp [p] H1 H')
    ⟨[], rfl, by simp, upd_same, (hp.mv fun u e => by rw [upd_ne hpD]; exact e).up (by omega), Kp.new hD⟩ ?_ ?_
  · rintro i H' hi ⟨cs, hl, hc, hcD, hp2, kp⟩
    refine ⟨by simp [wipe], ?_⟩
    refine hte _ (m + i) H' _ hp2 (by omega) fun c o hL hp3 => ?_
    refine ⟨_, (by rw [upd_ne hpD.symm]; exact hcD), small1000 (by rw [List.length_map, List.length_map]; omega), cs ++ [c], by simp [hl], ?_, ?_, ?_, (kp.mutAt (by simp)).mut hD⟩
    · intro x hx
      rcases List.mem_append.mp hx with hx | hx
      · exact hc x hx
      · rw [List.mem_singleton.mp hx]; exact hL
    · rw [upd_same, List.map_append, List.map_append]
      rfl
    · exact (hp3.mv fun u q => by rw [upd_ne hpD]; exact q).up (by omega)
  · rintro H' ⟨cs, hl, hc, hcD, hp2, kp⟩
    exact hd cs H' hl hc hcD hp2 kp
theorem sum_sgn (cs : List Nat) : (List.map (fun z : Str => z.length) (cs.map sgn)).sum = cs.length := by
  rw [List.map_map]
  induction cs with
  | nil => rfl
  | cons c r ih => rw [List.map_cons, List.sum_cons, ih, List.length_cons]; show 1 + r.length = r.length + 1; omega
theorem Lt.ok {c : Nat} (h : Lt c) : Okc c := by
  have := h.2
  unfold Okc
  omega
/-- a text of few signs, or a thing of another kind -/
def Txt1 (z : Str) : Prop := (tl z).length ≤ 1000 ∧ ∀ c ∈ tl z, Okc c
def Thing (K : PySem.W.Frag) (H : Hp) (v : V) : Prop := (∃ z : Str, v = .str z ∧ Txt1 z) ∨ Oth K H v
theorem cutS_mem (z : Str) (lo hi : Option Int) : ∀ c ∈ tl (cutS z lo hi), c ∈ tl z := by
  intro c hc
  exact List.mem_of_mem_drop (List.mem_of_mem_take hc)
theorem oth_int {K : PySem.W.Frag} {H : Hp} {i : Int} : Oth K H (.int i) := ⟨"int", .base (.int i), by decide +kernel⟩
theorem oth_bl {K : PySem.W.Frag} {H : Hp} {b : Bool} : Oth K H (.bl b) := ⟨"bool", .base (.bl b), by decide +kernel⟩
theorem oth_non {K : PySem.W.Frag} {H : Hp} : Oth K H .non := ⟨"NoneType", .base .non, by decide +kernel⟩
theorem oth_lst {K : PySem.W.Frag} {H : Hp} {a : Addr} {xs : List V} (h : H a = some (.lst xs)) : Oth K H (.ref a) := ⟨"list", .base (.lst h), by decide +kernel⟩
theorem oth_tup {K : PySem.W.Frag} {H : Hp} {a : Addr} {xs : List V} (h : H a = some (.tup xs)) : Oth K H (.ref a) := ⟨"tuple", .base (.tup h), by decide +kernel⟩
theorem Kp.newAt {l : List Addr} {H H' : Hp} {p : Addr} {o : HO} (a : Kp l H H') (h : H' p = none) : Kp l H (upd H' p o) := a.trans (Kp.new h)
theorem Same.kp {H0 H H' : Hp} {p : Addr} (a : Same H0 H) (k : Kp [p] H H') (h : H0 p = none) : Same H0 H' := fun b o e => k b o (a b o e) (by
  intro z
  have q := List.mem_singleton.mp z
  rw [q, h] at e
  cases e)
theorem Oth.mv {K : PySem.W.Frag} {H H' : Hp} {v : V} (h : Oth K H v) (s : Same H H') : Oth K H' v := by
  obtain ⟨T, ty, kb⟩ := h
  refine ⟨T, ?_, kb⟩
  cases ty with
  | base b =>
    generalize ht : Value.type T = t at b
    cases b with
    | non => injection ht with ht; subst ht; exact .base .non
    | bl x => injection ht with ht; subst ht; exact .base (.bl x)
    | int i => injection ht with ht; subst ht; exact .base (.int i)
    | str x => injection ht with ht; subst ht; exact .base (.str x)
    | flt x => injection ht with ht; subst ht; exact .base (.flt x)
    | lst e => injection ht with ht; subst ht; exact .base (.lst (s _ _ e))
    | frz e => injection ht with ht; subst ht; exact .base (.frz (s _ _ e))
    | tup e => injection ht with ht; subst ht; exact .base (.tup (s _ _ e))
    | dK e => injection ht with ht; subst ht; exact .base (.dK (s _ _ e))
    | dT e => injection ht with ht; subst ht; exact .base (.dT (s _ _ e))
    | ins e => cases ht
  | byt b => exact .byt b
  | set e => exact .set (s _ _ e)
  | kList e c => exact .kList e c
  | kTuple e c => exact .kTuple e c
  | kDict e c => exact .kDict e c
  | fTuple e => exact .fTuple (s _ _ e)
  | fDict e => exact .fDict (s _ _ e)
def spLaw (K : PySem.W.Frag) : Sp := fun vs H Q _ => ∃ (a : Addr) (ns : List Int), vs = [.ref a] ∧ SqL K H a (ns.map V.int) ∧ ns.length ≤ 63 ∧ ∀ H', Q (.bl true) H'
end IC
namespace IC
open PySem L2 TL
/-! ### a static method called by its class; list(text) -/
/-- C.m is a static method: its record at p, its def at g -/
structure SMet (K : PySem.W.Frag) (C : Addr) (mc : Value) (m : Str) (p g : Addr) : Prop where
  rd : ClX.CRead K C mc
  fnd : PySem.W.findCls K (.ref C) mc m = some (.get (.builtin "staticmethod.__get__") (.ref p) .none (.ref C))
  rec_ : ∃ rest, PySem.W.recIn K p "staticmethod" = some (.ref g :: rest)
  kp : PySem.W.keepIn K (.ref g) = true
def tSM (C : Addr) (sp : Sp) (ta : TE) (t : TA) : TE := fun σ H Q => ta σ H fun x H1 => x = .ref C ∧ t σ H1 fun vs H2 => sp vs H2 Q E0
theorem pe_smeth {X : Cx} {k j : Nat} {C p g : Addr} {mc : Value} {fd : FuncData} {ps : List Str} {sp : Sp} {o e : Expr} {es : List Expr} {m : Str} {pos apos : Pos} {ta : TE} {t : TA} {pl : Sem Bool}
    (ho : PE X o ta) (S : SMet X.K C mc m p g) (F : FnOk X.prog X.w X.K X.mg X.base CX0 k g fd ps sp) (hb : Binds X.K fd ps []) (hr : Room j X.A) (hk : k ≤ j) (ha : PA X (e :: es) t)
    (he : starEach (e :: es) X.env = (false, eval e X.env) :: starEach es X.env := by rfl) (hpl : (backTo pos (starEach es X.env)).any (·.1) = false := by rfl)
    (ht : eval (.Call (.Attribute o m apos) (e :: es) [] pos) X.env = (do
      let ov ← eval o X.env; standAt apos.atName
      let (f, first) ← holding [ov] (getMethod ov m pl); callWith pos f first (backTo pos (starEach (e :: es) X.env)) (backToKw pos (keywordEach [] X.env))) := by rfl) :
    PE X (.Call (.Attribute o m apos) (e :: es) [] pos) (tSM C sp ta t) := by
  refine ⟨fun pins s σ H Q I h => PySem.W.methodCall_KW (pl := pl) (thn (ho.run pins s σ H _ I h) fun u s1 ⟨x, H1, I1, rx, ex, q⟩ => ?_) ht⟩
  subst ex
  obtain rfl : u = Value.ref C := rx
  obtain ⟨rest, hrc⟩ := S.rec_
  refine PySem.W.method_cls I1.kIn S.rd.ga (PySem.W.cls_bind I1.kIn S.rd.rd S.fnd ?_)
  refine wpAny_call (PySem.W.sm_get (s := { s1 with toks := s1.toks + 1 }) I1.kIn hrc (PySem.W.handed_on rfl ?_))
  have I2 : Inv X pins σ H1 { s1 with toks := s1.toks + 1 } := I1.tok _
  exact PySem.W.callWith_K (h₀ := X.base) I2.ok.mod.kin S.kp (thn (ha.run pos pins _ σ H1 _ I2 q) fun us s3 ⟨vs, H3, I3, rv, q3⟩ => ⟨I3.kIn, run_fn F (hr.mono hk) hb .nil pass0 I3 rv (by rw [List.append_nil]; exact q3)⟩) he hpl
theorem vals_some : ∀ (its : List Value), (∀ u ∈ its, ∃ y, RelV y u) → ∃ ys, Vals ys its
  | [], _ => ⟨[], .nil⟩
  | u :: r, h => by
    obtain ⟨y, hy⟩ := h u List.mem_cons_self
    obtain ⟨ys, hys⟩ := vals_some r fun v hv => h v (List.mem_cons_of_mem _ hv)
    exact ⟨y :: ys, .cons hy hys⟩
/-- list(text): a new list -/
theorem call_list_txt {X : Cx} (hc : X.A.handled = none) : CallR X (.type "list") (fun xs H Q => ∃ z : Str, xs = [.str z] ∧ z.length ≤ sizeLine ∧ ∀ l ys, H l = none → Q (.ref l) (upd H l (.lst ys))) := by
  intro pins s σ H xs us Q I r h
  obtain ⟨z, rfl, hz, q⟩ := h
  obtain ⟨u, rfl, rx⟩ := vals1 r
  obtain ⟨t, rfl⟩ := rx
  refine call_list_str hc z t (fun h' tk acc c' kp e it => ?_) hz
  obtain ⟨ys, hys⟩ := vals_some acc.toList fun u hu => by
    obtain ⟨j, hj, e1⟩ := List.getElem_of_mem hu
    obtain ⟨c, w, _, rfl⟩ := it.2 j u (by
      rw [← e1]
      simp)
    exact ⟨.str ⟨#[c]⟩, w, rfl⟩
  have hl := hys.length
  refine ⟨.ref s.heap.objs.size, _, I.laid (t' := tk) kp (Nat.le_refl _) (show ObjOk X.prog X.w _ h' _ (.lst ys) from ⟨?_, acc.toList, c', hys, by simpa using e⟩), rfl, q _ ys (I.hok.fresh (Nat.le_refl _))⟩
  have h1 : acc.size = z.cps.size := it.1
  have h2 : acc.toList.length = acc.size := Array.length_toList
  rw [hl, h2, h1]
  exact hz
end IC
namespace IC
open PySem L2 TL
/-! ### the modes -/
def modesS : List Str := ["join", "inner", "apart", "must", "either", "never", "outside", "alone"]
def modesV : List V := modesS.map V.str
theorem mode_at (d : Int) (h0 : 0 ≤ d) (h1 : d < 8) : ∃ z : Str, atI modesV d = some (.str z) ∧ z ∈ modesS ∧ 4 ≤ (tl z).length ∧ (tl z).length ≤ 7 := by
  obtain ⟨j, rfl⟩ : ∃ j : Nat, d = j := ⟨d.toNat, by omega⟩
  have hj : j < 8 := by omega
  have all : ∀ k : Fin 8, ∃ z : Str, modesS[k.val]? = some z ∧ 4 ≤ (tl z).length ∧ (tl z).length ≤ 7 := by
    intro k
    match k with
    | 0 => exact ⟨"join", rfl, by decide +kernel, by decide +kernel⟩
    | 1 => exact ⟨"inner", rfl, by decide +kernel, by decide +kernel⟩
    | 2 => exact ⟨"apart", rfl, by decide +kernel, by decide +kernel⟩
    | 3 => exact ⟨"must", rfl, by decide +kernel, by decide +kernel⟩
    | 4 => exact ⟨"either", rfl, by decide +kernel, by decide +kernel⟩
    | 5 => exact ⟨"never", rfl, by decide +kernel, by decide +kernel⟩
    | 6 => exact ⟨"outside", rfl, by decide +kernel, by decide +kernel⟩
    | 7 => exact ⟨"alone", rfl, by decide +kernel, by decide +kernel⟩
  obtain ⟨z, h2, h3, h4⟩ := all ⟨j, hj⟩
  refine ⟨z, atI_nat ?_, List.mem_of_getElem? h2, h3, h4⟩
  unfold modesV
  rw [List.getElem?_map, h2]
  rfl
theorem modes_flat : modesV.all flatV = true := by decide +kernel
/-- what stands of the class Mode in the text -/
structure ModeTxt (K : PySem.W.Frag) (mg : Str → Option Value) (C p g t : Addr) (mc : Value) : Prop where
  mo : mg "Mode" = some (.ref C)
  rd : ClX.CRead K C mc
  all : ClX.CVal K C mc "ALL" (.ref t) (.ref t)
  tup : ∃ (o : Obj) (its : Array Value) (n : Nat), K.lookup t = some o ∧ o.cls = .type "tuple" ∧ o.data = .seq its n ∧ its.size ≤ sizeLine ∧ Vals modesV its.toList
  con : ∀ nm z : Str, (nm, z) ∈ ([("JOIN", "join"), ("INNER", "inner"), ("APART", "apart"), ("MUST", "must"), ("EITHER", "either"), ("NEVER", "never"), ("OUTSIDE", "outside"), ("ALONE", "alone")] : List (Str × Str)) → ∃ u, ClX.CVal K C mc nm (.str z) u
  sm : SMet K C mc "is_mode" p g
theorem ModeTxt.seq {K : PySem.W.Frag} {mg : Str → Option Value} {C p g t : Addr} {mc : Value} (M : ModeTxt K mg C p g t mc) (H : Hp) : SqT K H t modesV := .inr M.tup
/-- Mode.is_mode(thing), any value -/
def spIsMode (K : PySem.W.Frag) : Sp := fun vs H Q _ => ∃ v : V, vs = [v] ∧ ((∃ z : Str, v = .str z ∧ Q (.bl (inV v modesV)) H) ∨ (Oth K H v ∧ Q (.bl false) H))
end IC
namespace IC
open PySem L2 TL PyProof.Rows
/-! ### try: several except clauses, each with a name for the error or without -/
abbrev Cl := Value × Option Nat × (Addr → Value → Option Addr → TS)
/-- the slot i is emptied behind the suite -/
def emptied (i : Nat) (D : Ends) : Ends := { nx := fun τ G => D.nx (τ.set i none) G, rt := D.rt, bk := fun τ G => D.bk (τ.set i none) G, ct := fun τ G => D.ct (τ.set i none) G }
def wCl (K : PySem.W.Frag) (out : WX) (D : Ends) : List Cl → WX
  | [] => out
  | (c, some i, ts) :: r => fun cls d σ H => ∃ b, PySem.W.exmOne K cls c = some b ∧ (b = true → ∀ a, H a = none → ts a cls d (emptied i D) (σ.set i (some (.ref a))) H) ∧ (b = false → wCl K out D r cls d σ H)
  | (c, none, ts) :: r => fun cls d σ H => ∃ b, PySem.W.exmOne K cls c = some b ∧ (b = true → ∀ a, H a = none → ts a cls d D σ H) ∧ (b = false → wCl K out D r cls d σ H)
inductive ClOk (X : Cx) : List ExceptHandler → List Cl → Prop
  | nil : ClOk X [] []
  | nm {x n : Str} {c : Value} {i : Nat} {ts : Addr → Value → Option Addr → TS} {b0 : Stmt} {st : List Stmt} {np pos : Pos} {hs : List ExceptHandler} {l : List Cl} (hi : X.N[i]? = some n) (hl : X.env.kindOf n = some .local) (hc : Names X x c)
      (su : ∀ (a : Addr) (oe : Obj) (cls : Value) (d : Option Addr) (pn : List (Addr × Obj)), Zc cls d oe → (∃ vs, oe.data = .fields vs) → PSs (X.suite a ((a, oe) :: pn)) (b0 :: st) (ts a cls d)) (r : ClOk X hs l) :
      ClOk X (.ExceptHandler (some (.Name x np)) (some n) (b0 :: st) pos :: hs) ((c, some i, ts) :: l)
  | no {x : Str} {c : Value} {ts : Addr → Value → Option Addr → TS} {b0 : Stmt} {st : List Stmt} {np pos : Pos} {hs : List ExceptHandler} {l : List Cl} (hc : Names X x c)
      (su : ∀ (a : Addr) (oe : Obj) (cls : Value) (d : Option Addr) (pn : List (Addr × Obj)), Zc cls d oe → (∃ vs, oe.data = .fields vs) → PSs (X.suite a ((a, oe) :: pn)) (b0 :: st) (ts a cls d)) (r : ClOk X hs l) :
      ClOk X (.ExceptHandler (some (.Name x np)) none (b0 :: st) pos :: hs) ((c, none, ts) :: l)
/-- the name of a clause is asked: its class -/
theorem clause_name {X : Cx} {Y : Cx} {x : Str} {c : Value} {np : Pos} {pins : List (Addr × Obj)} {σ : L2.St} {H : Hp} {s : Shared} {Q E : Value → Shared → Prop} (hc : Names X x c) (J : Inv Y pins σ H s) (e1 : Y.env = X.env) (e2 : Y.mg = X.mg) (q : Q c s) :
    wpAny (model Y.prog Y.w) Y.A (eval (.Name x np) X.env) Q E s := by
  obtain ⟨h1, h2, h3⟩ := hc
  rw [← e1]
  have g : Gl Y x := by unfold Gl at h1 ⊢; rw [e1]; exact h1
  cases h3 with
  | inl h => exact ld_glob J g (by rw [e2]; exact h) q h2
  | inr h => exact ld_blt J g (by rw [e2]; exact And.left h) (And.left (And.right h)) q (And.right (And.right h)) h2
section
variable {X : Cx} {body : List Stmt} {h0 : ExceptHandler} {hs : List ExceptHandler} {l : List Cl} {pos : Pos} {tb : WX → TS} {out : WX}
theorem ps_try_cl (es : X.stack = X.env :: X.outer) (ef : X.env.frame = some X.env.locals) (nd : X.N.Nodup) (tk : Takes X out)
    (hb : ∀ (W : WX) (pn : List (Addr × Obj)) (xe : Value → Shared → Prop), Takes (X.tr pn xe) W → PassesOwn (model X.prog X.w) X.A X.env xe → PSs (X.tr pn xe) body (tb W))
    (hh : ClOk X (h0 :: hs) l) : PS X (.Try body (h0 :: hs) [] [] pos) (fun D σ H => tb (wCl X.K out D l) D σ H) := by
  refine ⟨fun pins s σ H D I h => wpAny_Try_except ?_⟩
  have ok := I.ok
  have fr : X.A.frames = some (X.env :: X.outer) := by rw [ok.frames, es]
  have bod := hb (wCl X.K out D l) (X.pn ++ pins) (fun e s₁ => wpAny (model X.prog X.w) X.A (noteFrame e X.env) (fun _ s₂ => wpAny (model X.prog X.w) X.A (setFlight e none) (fun _ s₃ => wpAny (model X.prog X.w) X.A (handleBy e X.env (h0 :: hs)) (SP X pins D) X.xe s₃) X.xe s₂) X.xe s₁)
  refine wpAny_mono ((bod (fun u s' air => ?_) PassesOwn.looking).run [] s σ H D (I.toTry _) h) (fun f s1 hsp => ?_) (fun _ _ z => z)
  · obtain ⟨a, B, sI, pins', τ, G, cls, d, rfl, J1, nb, up, sky, na, os, ag, wish⟩ := air
    have J : Inv X pins τ G sI := J1.ofTry ok
    rw [show (X.tr (X.pn ++ pins) _).stack = X.env :: X.outer from es] at sky
    refine Sky.land Zc.steady fr ef sky fun h3 fly up3 => ?_
    have J3 : Inv X pins τ G { s' with heap := h3 } := J.landed nb fly.1 (up.trans up3) os ag
    obtain ⟨oe, fv, at3, zc3, fd3⟩ := fly.there
    have off : a ∉ frs (X.env :: X.outer) := fun hm => by
      obtain ⟨_, o, e, nf⟩ := fly.2.2.1.mem hm
      rw [at3] at e
      cases e
      exact nf _ fd3
    have nL : a ≠ X.env.locals := fun z => off (List.mem_filterMap.mpr ⟨X.env, List.mem_cons_self, by rw [ef, z]⟩)
    have nF : a ∉ X.fs := fun hm => by
      obtain ⟨e, he, q⟩ := List.mem_filterMap.mp hm
      exact off (List.mem_filterMap.mpr ⟨e, List.mem_cons_of_mem _ he, q⟩)
    have typ : PySem.W.Looks (model X.prog X.w) h3 (typeOf (.ref a)) cls := fun A Q E s k q => wpAny_typeOf_ref (k _ _ at3) (by rw [And.left zc3]; exact q)
    have su0 := J3.suite at3 fd3 na nL nF
    have all : ∀ {hs' : List ExceptHandler} {l' : List Cl}, ClOk X hs' l' → wCl X.K out D l' cls d τ G → wpAny (model X.prog X.w) X.A (handleBy (.ref a) X.env hs') (SP X pins D) X.xe { s' with heap := h3 } := by
      intro hs' l' ck
      induction ck with
      | nil =>
        intro w
        obtain ⟨k1, k2, k3, oo, ov, T, oT, ts', e1, e2, e3, e4, e5⟩ := id fly
        refine wpAny_handleBy_nil ?_
        unfold PySem.passOn
        refine wpAny_bind (wpAny_field e1 e3 e4 ?_)
        rw [if_neg (show ¬ ((Value.ref T == Value.none) = true) from by simp)]
        have go : wpAny (model X.prog X.w) X.A (setFlight (.ref a) X.env.frame) (fun _ s4 => wpAny (model X.prog X.w) X.A (throw (.ref a) : Sem Flow) (SP X pins D) X.xe s4) X.xe { s' with heap := h3 } := by
          rw [ef]
          exact HandSPX.setFlight_upZ fly fun h4 held up4 => wpAny_throw (tk _ _ ⟨a, B, sI, pins, τ, G, cls, d, rfl, J, nb, (up.trans up3).trans up4, Or.inr (Or.inr (by rw [es]; exact held)), na, os, ag, w⟩)
        first
          | exact wpAny_bind (wpAny_pure (wpAny_bind go))
          | exact wpAny_bind go
      | @nm x n c i ts b0 st np pos hs2 l2 hi hl hc su r ih =>
        rintro ⟨b, hb1, yes, no⟩
        refine wpAny_handleBy_cons (codeAny_handlers_test ?_) (by intro q; cases q)
        refine clause_name (Y := X.suite a ((a, oe) :: (X.pn ++ pins))) hc su0 rfl rfl ((PySem.W.exm_one (M := model X.prog X.w) J3.kIn typ hb1).here ?_)
        match b, yes, no with
        | false, _, no => exact ih (no rfl)
        | true, yes, _ =>
          refine codeAny_handlers_suite_as (HandSPX.lands_againZ fly fun h4 fly4 up4 => ?_)
          obtain ⟨o4, v4, at4, zc4, fd4⟩ := fly4.there
          have su4 := (J.landed (s' := { s' with heap := h4 }) nb fly4.1 ((up.trans up3).trans up4) os ag).suite at4 fd4 na nL nF
          refine store_ok (X := X.suite a ((a, o4) :: (X.pn ++ pins))) (v := .ref a) su4 nd hi (Or.inl hl) rfl (fun s5 S5 => ?_) (Or.inr hl)
          refine wpAny_mono ((su a o4 cls d (X.pn ++ pins) zc4 ⟨_, fd4⟩).run [] s5 _ G _ S5 (yes rfl a na)) (fun f s6 fin => ?_) (fun _ _ z => z.elim)
          cases f with
          | next =>
            obtain ⟨τ6, G6, S6, q6⟩ := fin
            exact gone_ok (S6.unsuite ok) nd hi hl fun s7 J7 => ⟨_, _, J7, q6⟩
          | brk =>
            obtain ⟨τ6, G6, S6, q6⟩ := fin
            exact gone_ok (S6.unsuite ok) nd hi hl fun s7 J7 => ⟨_, _, J7, q6⟩
          | cont =>
            obtain ⟨τ6, G6, S6, q6⟩ := fin
            exact gone_ok (S6.unsuite ok) nd hi hl fun s7 J7 => ⟨_, _, J7, q6⟩
          | ret u =>
            obtain ⟨v6, τ6, G6, S6, r6, q6⟩ := fin
            exact gone_ok (S6.unsuite ok) nd hi hl fun s7 J7 => ⟨_, _, _, J7, r6, q6⟩
      | @no x c ts b0 st np pos hs2 l2 hc su r ih =>
        rintro ⟨b, hb1, yes, no⟩
        refine wpAny_handleBy_cons (codeAny_handlers_test ?_) (by intro q; cases q)
        refine clause_name (Y := X.suite a ((a, oe) :: (X.pn ++ pins))) hc su0 rfl rfl ((PySem.W.exm_one (M := model X.prog X.w) J3.kIn typ hb1).here ?_)
        match b, yes, no with
        | false, _, no => exact ih (no rfl)
        | true, yes, _ =>
          refine codeAny_handlers_suite (HandSPX.lands_againZ fly fun h4 fly4 up4 => ?_)
          obtain ⟨o4, v4, at4, zc4, fd4⟩ := fly4.there
          have su4 := (J.landed (s' := { s' with heap := h4 }) nb fly4.1 ((up.trans up3).trans up4) os ag).suite at4 fd4 na nL nF
          refine wpAny_mono ((su a o4 cls d (X.pn ++ pins) zc4 ⟨_, fd4⟩).run [] _ _ G _ su4 (yes rfl a na)) (fun f s6 fin => ?_) (fun _ _ z => z.elim)
          cases f with
          | next =>
            obtain ⟨τ6, G6, S6, q6⟩ := fin
            exact Exists.intro τ6 (Exists.intro G6 (And.intro (S6.unsuite ok) q6))
          | brk =>
            obtain ⟨τ6, G6, S6, q6⟩ := fin
            exact Exists.intro τ6 (Exists.intro G6 (And.intro (S6.unsuite ok) q6))
          | cont =>
            obtain ⟨τ6, G6, S6, q6⟩ := fin
            exact Exists.intro τ6 (Exists.intro G6 (And.intro (S6.unsuite ok) q6))
          | ret u =>
            obtain ⟨v6, τ6, G6, S6, r6, q6⟩ := fin
            exact Exists.intro v6 (Exists.intro τ6 (Exists.intro G6 (And.intro (S6.unsuite ok) (And.intro r6 q6))))
    exact all hh wish
  · cases f with
    | next =>
      obtain ⟨τ, G, J, q⟩ := hsp
      exact wpAny_execs_nil (Exists.intro τ (Exists.intro G (And.intro (J.ofTry ok) q)))
    | brk =>
      obtain ⟨τ, G, J, q⟩ := hsp
      exact Exists.intro τ (Exists.intro G (And.intro (J.ofTry ok) q))
    | cont =>
      obtain ⟨τ, G, J, q⟩ := hsp
      exact Exists.intro τ (Exists.intro G (And.intro (J.ofTry ok) q))
    | ret u =>
      obtain ⟨v, τ, G, J, r, q⟩ := hsp
      exact Exists.intro v (Exists.intro τ (Exists.intro G (And.intro (J.ofTry ok) (And.intro r q))))
end
end IC
namespace IC
open PySem L2 TL
/-! ### what is never come to -/
section
variable {X : Cx}
theorem ps_dead {st : Stmt} : PS X st (fun _ _ _ => False) := ⟨fun _ _ _ _ _ _ h => h.elim⟩
theorem pss_dead {ss : List Stmt} : PSs X ss (fun _ _ _ => False) := ⟨fun _ _ _ _ _ _ h => h.elim⟩
theorem pt_dead {e : Expr} : PT X e (fun _ _ _ => False) := ⟨fun _ _ _ _ _ _ h => h.elim⟩
theorem pe_dead {e : Expr} : PE X e (fun _ _ _ => False) := ⟨fun _ _ _ _ _ _ h => h.elim⟩
end
/-! ### methods by their class -/
structure MDf (P : Program) (w : World) (K : PySem.W.Frag) (mg : Str → Option Value) (base : Heap) (CX : CXT) (k : Nat) (C : Addr) (m : Str) (ps : List Str) (dvs : List V) (sp : Sp) : Prop where
  ex : ∃ (f : Addr) (fd : FuncData) (ds : List Value), FnOk P w K mg base CX k f fd ps sp ∧ Meth K C m f ∧ Binds K fd ps ds ∧ Vals dvs ds
/-- o.m(..), what is raised is wished for at the caller's slots -/
def tMethS (C : Addr) (m : Str) (sp : Sp) (dvs : List V) (E : L2.St → XK) (ta : TE) (t : TA) : TE := fun σ H Q => ta σ H fun x H1 => ∃ a dx fs, x = .ref a ∧ H1 a = some (.ins C dx fs) ∧ fs.lookup m = none ∧
  t σ H1 fun vs H2 => sp (x :: (vs ++ dvs)) H2 Q (E σ)
section
variable {X : Cx} {k j : Nat} {C : Addr} {m : Str} {ps : List Str} {dvs : List V} {sp : Sp} {o e : Expr} {es : List Expr} {pos apos : Pos} {ta : TE} {t : TA} {pl : Sem Bool} {W : WX}
theorem pe_md (D : MDf X.prog X.w X.K X.mg X.base CX0 k C m ps dvs sp) (c : Cls X.K C) (hr : Room j X.A) (hk : k ≤ j) (he : PE X o ta) (ha : PA X (e :: es) t)
    (hst : starEach (e :: es) X.env = (false, eval e X.env) :: starEach es X.env := by rfl) (hpl : (backTo pos (starEach es X.env)).any (·.1) = false := by rfl)
    (ht : eval (.Call (.Attribute o m apos) (e :: es) [] pos) X.env = (do
      let ov ← eval o X.env; standAt apos.atName
      let (f, first) ← holding [ov] (getMethod ov m pl); callWith pos f first (backTo pos (starEach (e :: es) X.env)) (backToKw pos (keywordEach [] X.env))) := by rfl) :
    PE X (.Call (.Attribute o m apos) (e :: es) [] pos) (tMeth C m sp dvs E0 ta t) := by
  obtain ⟨f, fd, ds, F, hm, hb, hd⟩ := D.ex
  exact pe_meth he c hm F (hr.mono hk) hb hd pass0 ha hst hpl ht
theorem pe_md0 (D : MDf X.prog X.w X.K X.mg X.base CX0 k C m ps dvs sp) (c : Cls X.K C) (hr : Room j X.A) (hk : k ≤ j) (he : PE X o ta)
    (ht : eval (.Call (.Attribute o m apos) [] [] pos) X.env = (do
      let ov ← eval o X.env; standAt apos.atName
      let (f, first) ← holding [ov] (getMethod ov m pl); callWith pos f first (backTo pos (starEach [] X.env)) (backToKw pos (keywordEach [] X.env))) := by rfl) :
    PE X (.Call (.Attribute o m apos) [] [] pos) (tMeth C m sp dvs E0 ta tNil) := by
  obtain ⟨f, fd, ds, F, hm, hb, hd⟩ := D.ex
  exact pe_meth0 he c hm F (hr.mono hk) hb hd pass0 ht
theorem pe_mdX (D : MDf X.prog X.w X.K X.mg X.base (L2.CX X.prog X.w) k C m ps dvs sp) (c : Cls X.K C) (tk : Takes X W) (hr : Room j X.A) (hk : k ≤ j) (he : PE X o ta) (ha : PA X (e :: es) t)
    (hst : starEach (e :: es) X.env = (false, eval e X.env) :: starEach es X.env := by rfl) (hpl : (backTo pos (starEach es X.env)).any (·.1) = false := by rfl)
    (ht : eval (.Call (.Attribute o m apos) (e :: es) [] pos) X.env = (do
      let ov ← eval o X.env; standAt apos.atName
      let (f, first) ← holding [ov] (getMethod ov m pl); callWith pos f first (backTo pos (starEach (e :: es) X.env)) (backToKw pos (keywordEach [] X.env))) := by rfl) :
    PE X (.Call (.Attribute o m apos) (e :: es) [] pos) (tMethS C m sp dvs (WE W) ta t) := by
  obtain ⟨f, fd, ds, F, hm, hb, hd⟩ := D.ex
  refine ⟨fun pins s σ H Q I h => PySem.W.methodCall_KW (pl := pl) (thn (he.run pins s σ H _ I h) fun u s1 ⟨x, H1, I1, rx, a, dx, fs, ex, ea, l, q⟩ => ?_) ht⟩
  subst ex
  obtain rfl : u = Value.ref a := rx
  refine getmeth_ok I1 ea c hm l (PySem.W.callWith_K (first := [.ref a]) (h₀ := X.base) I1.ok.mod.kin hm.kp (thn (ha.run pos pins s1 σ H1 _ I1 q) fun us s2 ⟨vs, H2, I2, r, q2⟩ => ⟨I2.kIn, ?_⟩) hst hpl)
  exact run_fnSD (us := .ref a :: us) (vs := .ref a :: vs) F (hr.mono hk) hb hd (passAt tk σ) I2 (.cons rfl r) q2
theorem pe_mdX0 (D : MDf X.prog X.w X.K X.mg X.base (L2.CX X.prog X.w) k C m ps dvs sp) (c : Cls X.K C) (tk : Takes X W) (hr : Room j X.A) (hk : k ≤ j) (he : PE X o ta)
    (ht : eval (.Call (.Attribute o m apos) [] [] pos) X.env = (do
      let ov ← eval o X.env; standAt apos.atName
      let (f, first) ← holding [ov] (getMethod ov m pl); callWith pos f first (backTo pos (starEach [] X.env)) (backToKw pos (keywordEach [] X.env))) := by rfl) :
    PE X (.Call (.Attribute o m apos) [] [] pos) (tMethS C m sp dvs (WE W) ta tNil) := by
  obtain ⟨f, fd, ds, F, hm, hb, hd⟩ := D.ex
  refine ⟨fun pins s σ H Q I h => PySem.W.methodCall_KW (pl := pl) (thn (he.run pins s σ H _ I h) fun u s1 ⟨x, H1, I1, rx, a, dx, fs, ex, ea, l, q⟩ => ?_) ht⟩
  subst ex
  obtain rfl : u = Value.ref a := rx
  refine getmeth_ok I1 ea c hm l ?_
  exact PySem.W.callWith_K0 (first := [.ref a]) I1.kIn hm.kp (run_fnSD (us := [.ref a]) (vs := [.ref a]) F (hr.mono hk) hb hd (passAt tk σ) I1 (.cons rfl .nil) q)
end
/-- a property by its class -/
structure PDf (P : Program) (w : World) (K : PySem.W.Frag) (mg : Str → Option Value) (base : Heap) (k : Nat) (C : Addr) (f : Str) (sp : Sp) : Prop where
  ex : ∃ (p g : Addr) (fd : FuncData), PropOf K C f p g ∧ FnOk P w K mg base CX0 k g fd ["self"] sp ∧ Binds K fd ["self"] []
theorem pe_pd {X : Cx} {k j : Nat} {C : Addr} {f : Str} {sp : Sp} {e : Expr} {ta : TE} {pos : Pos} (D : PDf X.prog X.w X.K X.mg X.base k C f sp) (c : Cls X.K C) (hr : Room j X.A) (hk : k + 1 ≤ j) (he : PE X e ta)
    (hab : attributeBase e f X.env (eval e X.env) = eval e X.env := by rfl) : PE X (.Attribute e f pos) (tProp C sp [] E0 ta) := by
  obtain ⟨p, g, fd, hp, F, hb⟩ := D.ex
  exact pe_prop he c hp F (hr.mono hk) hb .nil pass0 hab
/-! ### own errors with fields -/
structure ErrC (K : PySem.W.Frag) (mg : Str → Option Value) (x : Str) (C fI : Addr) : Prop where
  gC : mg x = some (.ref C)
  ox : OexC K C
  xf : XfC K C
  iC : PySem.W.findIn K (.ref C) "__init__" = some (some (.ref fI))
  tI : PySem.W.typeIn K (.ref fI) = some (.type "function")
/-- __init__(self, v): the fields fs v are laid -/
def spErr (C : Addr) (fs : V → List (Str × V)) : Sp := fun vs H Q _ => ∃ (a : Addr) (v : V), vs = [.ref a, v] ∧ H a = some (exo a C none) ∧
  ∀ (d : Addr) (H' : Hp), H d = none → d ≠ a → H' a = some (exo a C (some d)) → H' d = some (exd d (fs v)) → (∀ b, b ≠ a → b ≠ d → H' b = H b) → Q .non H'
structure EDf (P : Program) (w : World) (K : PySem.W.Frag) (mg : Str → Option Value) (base : Heap) (k : Nat) (x : Str) (C : Addr) (p : Str) (fs : V → List (Str × V)) : Prop where
  ex : ∃ (fI : Addr) (fd : FuncData), ErrC K mg x C fI ∧ FnOk P w K mg base CX0 k fI fd ["self", p] (spErr C fs) ∧ Binds K fd ["self", p] []
def tMkE (C : Addr) (fs : V → List (Str × V)) (ta : TA) : L2.St → Hp → XK → Prop := tMkO C (spErr C fs) [] ta
theorem pmk_ed {X : Cx} {k j : Nat} {x q : Str} {C : Addr} {fs : V → List (Str × V)} {e : Expr} {ta : TA} {p pos : Pos} (D : EDf X.prog X.w X.K X.mg X.base k x C q fs) (kC : PySem.W.keepIn X.K (.ref C) = true) (hr : Room j X.A) (hk : k + 1 ≤ j) (hg : Gl X x) (ha : PA X [e] ta)
    (hdb : (x == ("__debug__" : Str)) = false := by decide) (he : starEach [e] X.env = (false, eval e X.env) :: starEach [] X.env := by rfl) (hpl : (backTo pos (starEach [] X.env)).any (·.1) = false := by rfl) :
    PMk X (.Call (.Name x p) [e] [] pos) (tMkE C fs ta) := by
  obtain ⟨fI, fd, T, F, hb⟩ := D.ex
  exact pmk_oex T.ox T.iC T.tI F (hr.mono hk) hb .nil pass0 hg T.gC ha hdb he hpl
theorem upd_del {H1 H2 : Hp} {a d : Addr} {o : HO} (ha : H1 a = none) (e : ∀ b, b ≠ a → b ≠ d → H2 b = H1 b) (hd : d ≠ a) : upd (del H2 a) d o = upd H1 d o := by
  funext b
  by_cases h1 : b = d
  · rw [h1, upd_same, upd_same]
  · rw [upd_ne h1, upd_ne h1]
    by_cases h2 : b = a
    · rw [h2, del_same, ha]
    · rw [del_ne h2]
      exact e b h2 h1
/-- what the making of such an error asks -/
theorem mke {C : Addr} {fs : V → List (Str × V)} {vs : List V} {H1 : Hp} {Q : XK} (v : V) (hv : vs = [v]) (h : ∀ d, H1 d = none → Q (.ref C) (some d) (upd H1 d (.xd (fs v)))) :
    vs.length ≤ 1000 ∧ ∀ a, H1 a = none → spErr C fs (.ref a :: (vs ++ [])) (upd H1 a (exo a C none))
      (fun v H2 => v = .non ∧ ∃ (d : Addr) (fs : List (Str × V)), H2 a = some (exo a C (some d)) ∧ H2 d = some (exd d fs) ∧ H1 d = none ∧ Q (.ref C) (some d) (upd (del H2 a) d (.xd fs))) (fun _ _ _ => False) := by
  subst hv
  refine ⟨by show 1 ≤ 1000; omega, fun a ha => ⟨a, v, rfl, upd_same, fun d H' hd hda e1 e2 e3 => ⟨rfl, d, fs v, e1, e2, ?_, ?_⟩⟩⟩
  · rw [upd_ne hda] at hd
    exact hd
  · rw [upd_ne hda] at hd
    rw [upd_del ha (fun b h1 h2 => by rw [e3 b h1 h2, upd_ne h1]) hda]
    exact h d hd
end IC
namespace IC
open PySem L2 TL
/-! ### a database in which nothing is written -/
abbrev dbf (pv : V) (b m h k : Addr) : List (Str × V) := [("_present", pv), ("_blocks", .ref b), ("_floor", .int 0), ("_made", .ref m), ("_held", .ref h), ("_kept", .ref k)]
abbrev trf (o s : Addr) (f : V) : List (Str × V) := [("own", .ref o), ("starts", .ref s), ("first", f)]
structure DbP where
  dx : Addr
  b : Addr
  m : Addr
  h : Addr
  k : Addr
structure TrP where
  dx : Addr
  o : Addr
  s : Addr
def DbAt (C : Addr) (H : Hp) (d : Addr) (p : DbP) (pv : V) (bs : List V) : Prop := H d = some (.ins C p.dx (dbf pv p.b p.m p.h p.k)) ∧ H p.b = some (.lst bs)
/-- a transaction of n levels, f the top one's first word -/
def TrAt (C : Addr) (H : Hp) (t : Addr) (p : TrP) (n : Nat) (f : V) : Prop := H t = some (.ins C p.dx (trf p.o p.s f)) ∧ H p.o = some (.lst []) ∧ H p.s = some (.lst (List.replicate n (.int 0))) ∧ p.o ≠ p.s
def oV : Option Str → V
  | none => .non
  | some w => .str w
/-- the present transaction: n levels, f the top one's first word; without one n = 0 -/
def PrAt (C : Addr) (H : Hp) (b : Addr) (pv : V) (n : Nat) (f : Option Str) : Prop := (n = 0 ∧ f = none ∧ pv = .non) ∨ (0 < n ∧ ∃ (t : Addr) (p : TrP), pv = .ref t ∧ TrAt C H t p n (oV f) ∧ p.o ≠ b ∧ p.s ≠ b)
inductive Ek where
  | miss : Ek
  | pres : Ek
  | doom : Str → Ek
  | noth : Ek
  | dooms : Ek
  | fresh : Ek
  | inner : Ek
def entF (z : Str) : Ek := if decide (V.str z = V.str "must") = true then .miss else if inV (.str z) [.str "either", .str "never", .str "outside"] = true then .noth else .fresh
def entP (f : Option Str) (z : Str) : Ek :=
  if inV (.str z) [.str "never", .str "alone"] = true then .pres else if inV (.str z) [.str "join", .str "must", .str "either"] = true then .dooms else if decide (V.str z = V.str "outside") = true then .noth else
  if decide (V.str z = V.str "apart") = true then .fresh else match f with
  | some w => .doom w
  | none => .inner
def ent (n : Nat) (f : Option Str) (z : Str) : Ek := if n = 0 then entF z else entP f z
abbrev fsM (v : V) : List (Str × V) := [("word", .str "missing"), ("mode", v)]
abbrev fsP (v : V) : List (Str × V) := [("word", .str "present"), ("mode", v)]
abbrev fsD (v : V) : List (Str × V) := [("word", .str "doomed"), ("first", v)]
structure Cs where
  D : Addr
  T : Addr
  M : Addr
  P : Addr
  O : Addr
/-- an error goes out: nothing that stood has changed -/
def ErrQ (C : Addr) (fs : List (Str × V)) (H : Hp) (E : XK) : Prop := ∀ (x : Addr) (H' : Hp), Same H H' → H' x = some (.xd fs) → E (.ref C) (some x) H'
def FrQ (c : Cs) (H : Hp) (d : Addr) (p : DbP) (bs : List V) (z : Str) (Q : VK) (E : XK) : Ek → Prop
  | .miss => ErrQ c.M (fsM (.str z)) H E
  | .noth => ∀ H', Same H H' → Q (.str "nothing") H'
  | .fresh => ∀ (H' : Hp) (t : Addr) (q : TrP), Kp [d] H H' → H t = none → H q.o = none → H q.s = none → TrAt c.T H' t q 1 .non → DbAt c.D H' d p (.ref t) bs → Q (.str "ends") H'
  | _ => True
def spFree (c : Cs) : Sp := fun vs H Q E => ∃ (d : Addr) (p : DbP) (bs : List V) (z : Str), vs = [.ref d, .str z] ∧ DbAt c.D H d p .non bs ∧ FrQ c H d p bs z Q E (entF z)
def PsQ (c : Cs) (H : Hp) (d : Addr) (p : DbP) (bs : List V) (z : Str) (t : Addr) (q : TrP) (n : Nat) (Q : VK) (E : XK) : Ek → Prop
  | .pres => ErrQ c.P (fsP (.str z)) H E
  | .doom w => ErrQ c.O (fsD (.str w)) H E
  | .noth => ∀ H', Kp [d] H H' → DbAt c.D H' d p .non bs → Q (.str "nothing") H'
  | .dooms => ∀ H', Same H H' → Q (.str "dooms") H'
  | .fresh => ∀ (H' : Hp) (t : Addr) (q : TrP), Kp [d] H H' → H t = none → H q.o = none → H q.s = none → TrAt c.T H' t q 1 .non → DbAt c.D H' d p (.ref t) bs → Q (.str "ends") H'
  | .inner => ∀ H', Kp [q.s] H H' → TrAt c.T H' t q (n + 1) .non → Q (.str "ends") H'
  | _ => True
def spPres (c : Cs) : Sp := fun vs H Q E => ∃ (d : Addr) (p : DbP) (bs : List V) (z : Str) (t : Addr) (q : TrP) (n : Nat) (f : Option Str), vs = [.ref d, .str z, .ref t] ∧ DbAt c.D H d p (.ref t) bs ∧ TrAt c.T H t q n (oV f) ∧ n ≤ 1000 ∧ PsQ c H d p bs z t q n Q E (entP f z)
def EnQ (c : Cs) (H : Hp) (d : Addr) (p : DbP) (bs : List V) (z : Str) (pv : V) (n : Nat) (Q : VK) (E : XK) : Ek → Prop
  | .miss => ErrQ c.M (fsM (.str z)) H E
  | .pres => ErrQ c.P (fsP (.str z)) H E
  | .doom w => ErrQ c.O (fsD (.str w)) H E
  | .noth => ∀ (H' : Hp) (y : Addr), Kp [d, p.b] H H' → DbAt c.D H' d p .non (bs ++ [.ref y]) → H' y = some (.tup [.str "nothing", pv]) → Q .non H'
  | .dooms => ∀ (H' : Hp) (y : Addr), Kp [p.b] H H' → DbAt c.D H' d p pv (bs ++ [.ref y]) → H' y = some (.tup [.str "dooms", pv]) → Q .non H'
  | .fresh => ∀ (H' : Hp) (y t : Addr) (q : TrP), Kp [d, p.b] H H' → H t = none → H q.o = none → H q.s = none → TrAt c.T H' t q 1 .non → DbAt c.D H' d p (.ref t) (bs ++ [.ref y]) → H' y = some (.tup [.str "ends", pv]) → Q .non H'
  | .inner => ∀ (H' : Hp) (y t : Addr) (q : TrP), pv = .ref t → TrAt c.T H t q n .non → q.o ≠ p.b → q.s ≠ p.b → Kp [p.b, q.s] H H' → TrAt c.T H' t q (n + 1) .non → DbAt c.D H' d p pv (bs ++ [.ref y]) → H' y = some (.tup [.str "ends", pv]) → Q .non H'
def spEnter (c : Cs) : Sp := fun vs H Q E => ∃ (d : Addr) (p : DbP) (bs : List V) (z : Str) (pv : V) (n : Nat) (f : Option Str), vs = [.ref d, .str z] ∧ z ∈ modesS ∧ DbAt c.D H d p pv bs ∧ PrAt c.T H p.b pv n f ∧ bs.length ≤ 1000 ∧ n ≤ 1000 ∧ EnQ c H d p bs z pv n Q E (ent n f z)
def spTrInit (c : Cs) : Sp := fun vs H Q _ => ∃ (t dx : Addr), vs = [.ref t] ∧ H t = some (.ins c.T dx []) ∧ ∀ (H' : Hp) (o s : Addr), Kp [t] H H' → H o = none → H s = none → TrAt c.T H' t ⟨dx, o, s⟩ 1 .non → Q .non H'
def spTrDoom (c : Cs) : Sp := fun vs H Q _ => ∃ (t : Addr) (q : TrP) (n : Nat) (f : Option Str) (w : Str), vs = [.ref t, .str w] ∧ TrAt c.T H t q n (oV f) ∧ ∀ H', Kp [t] H H' → TrAt c.T H' t q n (oV (match f with | none => some w | some u => some u)) → Q .non H'
def spDbInit (c : Cs) : Sp := fun vs H Q _ => ∃ (d dx : Addr), vs = [.ref d] ∧ H d = some (.ins c.D dx []) ∧ ∀ (H' : Hp) (b m h k : Addr), Kp [d] H H' → H b = none → DbAt c.D H' d ⟨dx, b, m, h, k⟩ .non [] → Q .non H'
/-- a property that only looks -/
def spGet (c : Cs) (g : Nat → Option Str → Nat → V) : Sp := fun vs H Q _ => ∃ (d : Addr) (p : DbP) (bs : List V) (pv : V) (n : Nat) (f : Option Str), vs = [.ref d] ∧ DbAt c.D H d p pv bs ∧ PrAt c.T H p.b pv n f ∧ bs.length ≤ 1000 ∧ n ≤ 1000 ∧ Q (g n f bs.length) H
def spDbDoom (c : Cs) (K : PySem.W.Frag) : Sp := fun vs H Q _ => ∃ (d : Addr) (p : DbP) (bs : List V) (pv : V) (n : Nat) (f : Option Str) (w : Str), vs = [.ref d, .str w] ∧ IsW w ∧ DbAt c.D H d p pv bs ∧ PrAt c.T H p.b pv n f ∧
  ((n = 0 ∧ ∀ H', Same H H' → Q .non H') ∨ (0 < n ∧ ∀ (H' : Hp) (t : Addr) (q : TrP), pv = .ref t → TrAt c.T H t q n (oV f) → Kp [t] H H' → TrAt c.T H' t q n (oV (match f with | none => some w | some u => some u)) → Q .non H'))
def LvQ (c : Cs) (H : Hp) (d : Addr) (p : DbP) (bs : List V) (eff : Str) (bv pv : V) (r : V) (Q : VK) : Prop :=
  ((eff = "nothing" ∨ eff = "dooms") ∧ ∀ H', Kp [d, p.b] H H' → DbAt c.D H' d p bv bs → Q r H') ∨
  (eff = "ends" ∧ ∃ (t : Addr) (q : TrP) (n : Nat), pv = .ref t ∧ n ≤ 1000 ∧ q.o ≠ p.b ∧ q.s ≠ p.b ∧ TrAt c.T H t q (n + 1) .non ∧ ∀ H', Kp [d, p.b, t, q.s] H H' → DbAt c.D H' d p bv bs → TrAt c.T H' t q n .non → Q r H')
def spEndBlock (c : Cs) : Sp := fun vs H Q _ => ∃ (d : Addr) (p : DbP) (bs : List V) (y : Addr) (eff : Str) (bv pv : V), vs = [.ref d, .non, .bl true] ∧ DbAt c.D H d p pv (bs ++ [.ref y]) ∧ H y = some (.tup [.str eff, bv]) ∧ bs.length ≤ 1000 ∧ LvQ c H d p bs eff bv pv (.str "") Q
def spLeave (c : Cs) : Sp := fun vs H Q _ => ∃ (d : Addr) (p : DbP) (bs : List V) (y : Addr) (eff : Str) (bv pv : V) (n : Nat) (f : Option Str), vs = [.ref d, .non, .bl true] ∧ DbAt c.D H d p pv (bs ++ [.ref y]) ∧ PrAt c.T H p.b pv n f ∧ n ≤ 1000 ∧ H y = some (.tup [.str eff, bv]) ∧ bs.length ≤ 900 ∧ LvQ c H d p bs eff bv pv .non Q
def spEndLevel (c : Cs) : Sp := fun vs H Q _ => ∃ (d t : Addr) (p : DbP) (pv : V) (bs : List V) (q : TrP) (n : Nat), vs = [.ref d, .ref t, .non, .bl true] ∧ n ≤ 1000 ∧ DbAt c.D H d p pv bs ∧ q.s ≠ p.b ∧ TrAt c.T H t q (n + 1) .non ∧ ∀ H', Kp [t, q.s] H H' → TrAt c.T H' t q n .non → Q (.str "") H'
def spKeep (c : Cs) : Sp := fun vs H Q _ => ∃ (d t : Addr) (q : TrP) (f : V) (n : Nat), vs = [.ref d, .ref t] ∧ TrAt c.T H t q n f ∧ Q .non H
/-- what the text says of the classes and constants -/
structure DbTxt (K : PySem.W.Frag) (mg : Str → Option Value) (c : Cs) : Prop where
  cD : Cls K c.D
  cT : Cls K c.T
  nP : NoAttr K c.D "_present"
  nB : NoAttr K c.D "_blocks"
  nF : NoAttr K c.D "_floor"
  nM : NoAttr K c.D "_made"
  nH : NoAttr K c.D "_held"
  nK : NoAttr K c.D "_kept"
  nO : NoAttr K c.T "own"
  nS : NoAttr K c.T "starts"
  n1 : NoAttr K c.T "first"
  gE : ∃ u, mg "ENDS" = some u ∧ RelV (.str "ends") u
  gD : ∃ u, mg "DOOMS" = some u ∧ RelV (.str "dooms") u
  gN : ∃ u, mg "NOTHING" = some u ∧ RelV (.str "nothing") u
theorem pe_gv {X : Cx} {x : Str} {v : V} {pos : Pos} (h : ∃ u, X.mg x = some u ∧ RelV v u) (hg : Gl X x) (hdb : (x == ("__debug__" : Str)) = false := by decide) : PE X (.Name x pos) (tC v) := by
  obtain ⟨u, e, r⟩ := h
  exact pe_glob hg e r hdb
/-- a class that is made without arguments -/
structure CDf (P : Program) (w : World) (K : PySem.W.Frag) (mg : Str → Option Value) (base : Heap) (k : Nat) (x : Str) (C : Addr) (sp : Sp) : Prop where
  ex : ∃ (f : Addr) (fd : FuncData), Mk K C f ∧ FnOk P w K mg base CX0 k f fd ["self"] sp ∧ Binds K fd ["self"] [] ∧ mg x = some (.ref C)
theorem pe_mk0 {X : Cx} {k j : Nat} {x : Str} {C : Addr} {sp : Sp} {p pos : Pos} (D : CDf X.prog X.w X.K X.mg X.base k x C sp) (hr : Room j X.A) (hk : k + 1 ≤ j) (hg : Gl X x) (hdb : (x == ("__debug__" : Str)) = false := by decide) :
    PE X (.Call (.Name x p) [] [] pos) (tMake C sp [] E0 tNil) := by
  obtain ⟨f, fd, M, F, hb, hm⟩ := D.ex
  exact pe_make0 M F (hr.mono hk) hg hm hb .nil pass0 hdb
/-- Transaction(): what its making asks -/
theorem mk_tr {c : Cs} {H : Hp} {R : VK} {x dx : Addr} (nx : H x = none) (nd : H dx = none) (_ne : dx ≠ x) (h : ∀ (H' : Hp) (q : TrP), Same H H' → H q.o = none → H q.s = none → TrAt c.T H' x q 1 .non → R .non H') :
    spTrInit c [.ref x] (upd (upd H dx (.own x)) x (.ins c.T dx [])) R E0 := by
  refine ⟨x, dx, rfl, upd_same, fun H' o s kp no ns tr => h H' ⟨dx, o, s⟩ (fun b u e => ?_) ?_ ?_ tr⟩
  · have n1 := ne_of_none e nx
    exact kp b u (by rw [upd_ne n1, upd_ne (ne_of_none e nd)]; exact e) (by simpa using n1)
  · exact (none_of (none_of no).2).2
  · exact (none_of (none_of ns).2).2
theorem DbAt.mv {C : Addr} {H H' : Hp} {d : Addr} {p : DbP} {pv : V} {bs : List V} {l : List Addr} (h : DbAt C H d p pv bs) (k : Kp l H H') (n1 : d ∉ l) (n2 : p.b ∉ l) : DbAt C H' d p pv bs := ⟨k _ _ h.1 n1, k _ _ h.2 n2⟩
theorem DbAt.same {C : Addr} {H H' : Hp} {d : Addr} {p : DbP} {pv : V} {bs : List V} (h : DbAt C H d p pv bs) (k : Same H H') : DbAt C H' d p pv bs := ⟨k _ _ h.1, k _ _ h.2⟩
theorem TrAt.mv {C : Addr} {H H' : Hp} {t : Addr} {q : TrP} {n : Nat} {f : V} {l : List Addr} (h : TrAt C H t q n f) (k : Kp l H H') (n1 : t ∉ l) (n2 : q.o ∉ l) (n3 : q.s ∉ l) : TrAt C H' t q n f := ⟨k _ _ h.1 n1, k _ _ h.2.1 n2, k _ _ h.2.2.1 n3, h.2.2.2⟩
theorem TrAt.same {C : Addr} {H H' : Hp} {t : Addr} {q : TrP} {n : Nat} {f : V} (h : TrAt C H t q n f) (k : Same H H') : TrAt C H' t q n f := ⟨k _ _ h.1, k _ _ h.2.1, k _ _ h.2.2.1, h.2.2.2⟩
theorem PrAt.same {C : Addr} {H H' : Hp} {b : Addr} {pv : V} {n : Nat} {f : Option Str} (h : PrAt C H b pv n f) (k : Same H H') : PrAt C H' b pv n f := by
  rcases h with h | ⟨h0, t, q, e, tr, h1, h2⟩
  · exact .inl h
  · exact .inr ⟨h0, t, q, e, tr.same k, h1, h2⟩
/-- the places of a database and of a transaction differ -/
theorem DbAt.dt {C T : Addr} {H : Hp} {d t : Addr} {p : DbP} {q : TrP} {pv f : V} {bs : List V} {n : Nat} (h : DbAt C H d p pv bs) (g : TrAt T H t q n f) : t ≠ d ∧ q.o ≠ d ∧ q.s ≠ d ∧ t ≠ p.b ∧ q.o ≠ t ∧ q.s ≠ t := by
  refine ⟨fun e => ?_, fun e => ?_, fun e => ?_, fun e => ?_, fun e => ?_, fun e => ?_⟩
  · have z := g.1
    rw [e, h.1] at z
    injection z with z
    injection z with _ _ z
    exact absurd (congrArg List.length z) (by show ¬ (6 = 3); decide)
  · have z := g.2.1
    rw [e, h.1] at z
    cases z
  · have z := g.2.2.1
    rw [e, h.1] at z
    cases z
  · have z := g.1
    rw [e, h.2] at z
    cases z
  · have z := g.2.1
    rw [e, g.1] at z
    cases z
  · have z := g.2.2.1
    rw [e, g.1] at z
    cases z
theorem DbAt.db {C : Addr} {H : Hp} {d : Addr} {p : DbP} {pv : V} {bs : List V} (h : DbAt C H d p pv bs) : p.b ≠ d := fun e => by
  have z := h.2
  rw [e, h.1] at z
  cases z
theorem Kp.sub {l m : List Addr} {H H' : Hp} (k : Kp l H H') (h : ∀ x, x ∈ l → x ∈ m) : Kp m H H' := fun b o e n => k b o e fun z => n (h b z)
theorem mode_in {z : Str} (h : z ∈ modesS) : inV (.str z) modesV = true := by
  simp only [modesS, List.mem_cons, List.not_mem_nil, or_false] at h
  rcases h with rfl | rfl | rfl | rfl | rfl | rfl | rfl | rfl <;> decide +kernel
/-- a block is put on -/
theorem put_block {C : Addr} {H : Hp} {d y : Addr} {p : DbP} {pv : V} {bs ts : List V} (h : DbAt C H d p pv bs) (ny : H y = none) :
    DbAt C (upd (upd H y (.tup ts)) p.b (.lst (bs ++ [.ref y]))) d p pv (bs ++ [.ref y]) ∧ upd (upd H y (.tup ts)) p.b (.lst (bs ++ [.ref y])) y = some (.tup ts) ∧ Kp [p.b] H (upd (upd H y (.tup ts)) p.b (.lst (bs ++ [.ref y]))) :=
  ⟨⟨by rw [upd_ne h.db.symm, upd_ne (ne_of_none h.1 ny)]; exact h.1, upd_same⟩, by rw [upd_ne (ne_of_none h.2 ny).symm, upd_same], (Kp.new ny).mutAt (List.mem_singleton.mpr rfl)⟩
theorem wB_of {z : Str} (h : IsW z) : wB z = true := by
  obtain ⟨h1, h2, h3⟩ := h
  unfold wB
  rw [decide_eq_true h1, decide_eq_true h2]
  show (tl z).all lB = true
  rw [List.all_eq_true]
  intro x hx
  have q := h3 x hx
  unfold lB
  rw [decide_eq_true q.1, decide_eq_true q.2]
  rfl
end IC
namespace IC
open PySem PySem.W PySem.Calls PyProof.Rows PySem.Spec
/-! ### == of plain instances: the same object -/
section
variable {prog : Program} {w : World} {A : Around} {E : Value → Shared → Prop} {s : Shared} {K : Frag} {x C : Addr} {ox : Obj} {od : Option Obj}
theorem same_self {M : Model} {R : Bool → Shared → Prop} (h : R true s) : wpAny M A (isSame (.ref x) (.ref x)) R E s := wpAny_of_eq (show isSame (.ref x) (.ref x) = pure true by simp [isSame]) h
theorem eq_self_body {Q : Fin → Shared → Prop} (hq : Q (.done (.ret (.bool true))) s) : wpAny (model prog w) A (Builtin.«object.__eq__» ⟨[.ref x, .ref x], []⟩) Q E s := by
  unfold Builtin.«object.__eq__»
  repeat (first | with_reducible refine same_self ?_ | wp_step)
  exact hq
theorem own_eq_self {Q : Value → Shared → Prop} (hu : A.units < cLine) (X : K.In s.heap) (I : InstAt s.heap x ox C od) (hm : mroIn K C (.type "object") = some true) (hs : findIn K (.ref C) "__eq__" = some (some (.builtin "object.__eq__"))) (h : Q (.bool true) s) :
    wpAny (model prog w) A (richCompare .Eq (.ref x) (.ref x)) Q E s := by
  have one : wpAny (model prog w) A (tryCompare (.ref x) "__eq__" (.ref x)) (fun r s' => r = some (.bool true) ∧ s' = s) E s := by
    unfold tryCompare
    refine wpAny_bind (HN.ifBound_objEq X I hs (wpAny_call (codeAny_call_builtin F.cmp_object.eq.plain F.cmpEntry_eq (check_slot F.cmpKind_eq F.cmpSplit_eq (I.type.andThen (looks_mroIn X hm)) (F.cmpArgs_eq _ _) (eq_self_body ?_)))))
    exact wpAny_pure ⟨rfl, rfl⟩
  simp only [richCompare, cmpInfo_Eq, oneThing_ref]
  refine wpAny_holding (wpAny_bind (wpAny_cRoomFor hu (wpAny_bind (I.type.here (wpAny_bind (I.type.here ?_))))))
  have eqC : (Value.ref C != Value.ref C) = false := by simp
  rw [eqC]
  simp only [Bool.false_eq_true, if_false]
  refine wpAny_bind (wpAny_pure ?_)
  simp only [Bool.false_eq_true, if_false]
  refine wpAny_bind (wpAny_mono one (fun r s' z => ?_) fun _ _ e => e)
  rcases z with ⟨rfl, rfl⟩
  exact wpAny_pure h
end
end IC
namespace IC
open PySem L2 TL
section
variable {X : Cx}
def rEqSelf (C : Addr) : R2 := fun x y H Q => ∃ (p dx : Addr) (fs : List (Str × V)), x = .ref p ∧ y = .ref p ∧ H p = some (.ins C dx fs) ∧ Q (.bl true) H
theorem op_eqSelf {C : Addr} (hm : PySem.W.mroIn X.K C (.type "object") = some true) (hs : PySem.W.findIn X.K (.ref C) "__eq__" = some (some (.builtin "object.__eq__"))) (hu : X.A.units < cLine) : OpR X (compareOp .Eq) (rEqSelf C) := by
  rintro pins s σ H x y v u Q I rx ry ⟨p, dx, fs, rfl, rfl, hp, q⟩
  cases rx
  cases ry
  rcases StX.insC_at I (.inr ⟨dx, fs, hp⟩) with ⟨ox, od, J, _⟩
  show wpAny (model X.prog X.w) X.A (richCompare .Eq (.ref p) (.ref p)) (EP X pins σ Q) X.xe s
  exact own_eq_self hu I.kIn J hm hs ⟨.bl true, H, I, rfl, q⟩
/-- x in o, o has its own __contains__ -/
def rInOwn (C : Addr) (sp : Sp) : R2 := fun x y H Q => ∃ (p dx : Addr) (fs : List (Str × V)), y = .ref p ∧ H p = some (.ins C dx fs) ∧ sp [.ref p, x] H (fun v H' => ∃ b : Bool, v = .bl b ∧ Q (.bl b) H') E0
theorem op_inOwn {C g : Addr} {k : Nat} {sp : Sp} (has : PySem.W.findIn X.K (.ref C) "__contains__" = some (some (.ref g))) (fn : PySem.W.isFn X.K (.ref g) = true) (F : FnR X.prog X.w X.K X.mg X.base CX0 k g sp) (hr : Room k X.A) : OpR X (compareOp .In) (rInOwn C sp) := by
  rintro pins s σ H x y v u Q I rx ry ⟨p, dx, fs, rfl, hp, h⟩
  cases ry
  rcases StX.insC_at I (.inr ⟨dx, fs, hp⟩) with ⟨ox, od, J, _⟩
  rcases I.fr with ⟨m, hF⟩
  refine PySem.W.in_K hF I.ok.mod.kin J has fn (wpAny_mono (wpAny_call (run_fnR F hr pass0 I (.cons (show RelV (V.ref p) (Value.ref p) from rfl) (.cons rx .nil)) h)) (fun r s' e => ?_) fun _ _ e => e)
  rcases e with ⟨y, H2, I2, ry, b, rfl, q⟩
  have ry : r = Value.bool b := ry
  subst ry
  exact wpAny_truthy_bool ⟨.bl b, H2, I2, rfl, q⟩
/-- o[i] = v, o has its own __setitem__ -/
def rSetOwn (C : Addr) (sp : Sp) : TSet := fun o i v H Q => ∃ (p dx : Addr) (fs : List (Str × V)), o = .ref p ∧ H p = some (.ins C dx fs) ∧ sp [.ref p, i, v] H (fun _ H' => Q H') E0
theorem set_own {C g : Addr} {k : Nat} {sp : Sp} (hq : PySem.W.noSeq X.K C = true) (has : PySem.W.findIn X.K (.ref C) "__setitem__" = some (some (.ref g))) (fn : PySem.W.isFn X.K (.ref g) = true) (F : FnR X.prog X.w X.K X.mg X.base CX0 k g sp) (hr : Room k X.A) : PSet X (rSetOwn C sp) := by
  rintro pins s σ H o i v ov iv u Q I ro ri rv ⟨p, dx, fs, rfl, hp, h⟩
  cases ro
  rcases StX.insC_at I (.inr ⟨dx, fs, hp⟩) with ⟨ox, od, J, _⟩
  rcases I.fr with ⟨m, hF⟩
  refine PySem.W.ksp_setItem hF I.ok.mod.kin J hq has fn (wpAny_mono (wpAny_call (run_fnR F hr pass0 I (.cons (show RelV (V.ref p) (Value.ref p) from rfl) (.cons ri (.cons rv .nil))) h)) (fun r s' e => ?_) fun _ _ e => e)
  rcases e with ⟨y, H2, I2, ry, q⟩
  exact ⟨H2, I2, q⟩
/-- o[i], o has its own __getitem__; what is raised is wished for at the caller's slots -/
def tIxOwn (C : Addr) (sp : Sp) (E : L2.St → XK) (ta tb : TE) : TE := fun σ H Q => ta σ H fun x H1 => tb σ H1 fun y H2 => ∃ (p dx : Addr) (fs : List (Str × V)), x = .ref p ∧ H2 p = some (.ins C dx fs) ∧ sp [.ref p, y] H2 Q (E σ)
theorem pe_ixOwn {C g : Addr} {k : Nat} {sp : Sp} {W : WX} {a b : Expr} {ta tb : TE} {pos : Pos} (has : PySem.W.findIn X.K (.ref C) "__getitem__" = some (some (.ref g))) (fn : PySem.W.isFn X.K (.ref g) = true) (fi : PySem.W.fnIn X.K g = true) (F : FnR X.prog X.w X.K X.mg X.base (L2.CX X.prog X.w) k g sp) (hr : Room (k + 1) X.A) (tk : Takes X W)
    (ha : PE X a ta) (hb : PE X b tb) (hs : ∀ x i, subscripted b true (.ref x) i = runValue (.builtin "lifetime.subscript" ⟨[.ref x, i], []⟩) := by intro _ _; with_unfolding_all rfl) : PE X (.Subscript a b pos) (tIxOwn C sp (WE W) ta tb) := by
  refine ⟨fun pins s σ H Q I h => ?_⟩
  refine PyProof.Rows.Subscript_ (binT ha hb I h fun v u s2 x y H2 I2 rx ry q => ?_)
  rcases q with ⟨p, dx, fs, rfl, hp, h⟩
  cases rx
  rcases StX.insC_at I2 (.inr ⟨dx, fs, hp⟩) with ⟨ox, od, J, _⟩
  rcases I2.fr with ⟨m, hF⟩
  have run := F X.A.in1 X.stack s2 H2 [Value.ref p, u] [V.ref p, y] _ (WE W σ) hr.in1 I2.env0.in1 (.cons (show RelV (V.ref p) (Value.ref p) from rfl) (.cons ry .nil)) h
  refine PySem.W.sub_K hF I2.ok.mod.kin J has fi fn (wpAny_call (codeAny_mono run fun r s' z => ?_)) (hs _ _)
  match r, z with
  | .error er, z => exact passAt tk σ pins H2 s2 er s' I2 z
  | .ok (.ret w), z => exact I2.after z
  | .ok .next, z => exact False.elim z
  | .ok .brk, z => exact False.elim z
  | .ok .cont, z => exact False.elim z
end
end IC
namespace IC
open PySem PySem.Spec PyProof.Rows L2
/-- sorted(a dict whose keys are texts), however many -/
theorem cr_sortDS {X : Cx} (calm : X.calm = true) : CallR X (.builtin "sorted") (fun vs H Q => ∃ (a : Addr) (kvs : List (Key × V)) (xs : List Str), vs = [.ref a] ∧ Rd H a (.dK kvs) ∧ kvs.map (·.1) = xs.map Sum.inr ∧
    ∀ (ys : List Str) (p : Addr), ys.Perm xs → sortedS ys = true → H p = none → Q (.ref p) (upd H p (.lst (ys.map V.str)))) := by
  rintro pins s σ H vs us Q I rel ⟨a, kvs, xs, rfl, rd, hks, q⟩
  rcases vals1 rel with ⟨u, rfl, ru⟩
  cases ru
  rcases dk_rd I.hok rd with ⟨z, lo, es, rl, dd⟩
  rcases dd.dictAt with ⟨ep, hat⟩
  have keys : es.map (·.1) = xs.map Sum.inr := rl.keys.symm.trans hks
  have hl : es.length = xs.length := by
    have e := congrArg List.length keys
    rw [List.length_map, List.length_map] at e
    exact e
  have small : es.length ≤ sizeLine := by rw [← rl.length]; exact z
  refine Calls.call_function_entry kind_sorted plain_sorted entry_sorted (args_sorted1 _) ?_
  unfold Builtin.«sorted»
  refine wpAny_bind (m := checkCount "sorted" 1 1 _) (wpAny_pure ?_)
  refine wpAny_bind (PySem.W.kdu_collect (A := X.A.in1) (PySem.W.kdl_dict (knd := mixKind X.prog X.w) (kvs := es) (ep := ep) lo) (I.ok.hd calm) hat small fun h' tk acc kept got => ?_)
  have hal : acc.toList.length = xs.length := by rw [Array.length_toList, got.1, hl]
  have are : StrsAre acc.toList xs := strs_at hal fun j v e => by
    rcases got.2 j v (by rw [← Array.getElem?_toList]; exact e) with ⟨k, x, e1, e2⟩
    have e3 : (es.map (·.1))[j]? = some k := by rw [List.getElem?_map, e1]; all_goals rfl
    rw [keys, List.getElem?_map] at e3
    cases e4 : xs[j]? with
    | none => rw [e4] at e3; cases e3
    | some y =>
      rw [e4] at e3
      cases e3
      rcases Value.isStrOf_shape (x := y) (v := v) e2 with ⟨t, ev⟩
      exact ⟨y, t, rfl, ev⟩
  have len : acc.toList.length ≤ sizeLine := by rw [hal, ← hl]; exact small
  have J1 : Inv X pins σ H { s with heap := h', toks := tk } := I.kept kept
  refine wpAny_bind (wpAny_newList ?_ len)
  have at1 : (h'.push (seqObj "list" acc.toList.toArray 0)).get? h'.objs.size = some (seqObj "list" acc.toList.toArray 0) := Heap.get?_push_size _ rfl
  show wpAny _ _ _ _ _ { s with heap := h'.push (seqObj "list" acc.toList.toArray 0), toks := tk }
  refine wpAny_bind (wpAny_holding (wpAny_call_entry slot_list_sort ⟨_, at1, rfl⟩ entry_list_sort
    (list_sort_treeKAny strKind_oneLt (s := { s with heap := h'.push (seqObj "list" acc.toList.toArray 0), toks := tk }) at1 are.keysOf (fun v1 v2 rest e => keyKind_strs (by rw [← e]; exact are)) len fun st hp hs => ⟨_, rfl, ?_⟩) (args_list_sort _)))
  rcases sorted_out_str are hp hs with ⟨ys, g1, g2, g3⟩
  rcases sortedHeap_at (vs := acc.toList) (out := (arrOf st).map (·.2)) at1 with ⟨c, hc⟩
  have lenY : (ys.map V.str).length ≤ sizeLine := by
    rw [List.length_map, g2.length_eq, ← hal]
    exact len
  refine wpAny_pure ⟨_, rfl, .ref h'.objs.size, upd H h'.objs.size (.lst (ys.map V.str)), J1.laid (t' := tk) (fun b u e => ?_) (Nat.le_refl _) ⟨lenY, ((arrOf st).map (·.2)).toList, c, vals_of_strs g1, by rw [Array.toArray_toList]; exact hc⟩, rfl, q ys _ g2 g3 (J1.hok.fresh (Nat.le_refl _))⟩
  have lt : b < h'.objs.size := Heap.lt_size e
  rw [sortedHeap_old (Nat.ne_of_lt lt) (by rw [size_push']; exact Nat.lt_succ_of_lt lt)]
  exact Heap.get?_push_of_some _ e
end IC
namespace IC
open PySem L2 TL
/-! ### a database in which is written: one transaction at most, never doomed -/
structure Wr where
  a : Addr
  r : Str
  v : V
abbrev wrf (r : Str) (v h f : V) : List (Str × V) := [("record", .str r), ("value", v), ("holder", h), ("fate", f)]
/-- the write x, held by h -/
def WAt (CW : Addr) (H : Hp) (h : V) (x : Wr) : Prop := ∃ (dx : Addr) (f : Str), H x.a = some (.ins CW dx (wrf x.r x.v h (.str f)))
def kd (l : List Wr) : List (Key × V) := l.map fun x => (.inr x.r, .ref x.a)
def hd3 (l : List (Str × Addr)) : List (Key × V) := l.map fun x => (.inr x.1, .ref x.2)
def refs (l : List Wr) : List V := l.map fun x => .ref x.a
def ofR (l : List Wr) (r : Str) : List Wr := l.filter fun x => decide (x.r = r)
def findW (l : List Wr) (r : Str) : Option Wr := l.find? fun x => decide (x.r = r)
def putW (l : List Wr) (x : Wr) : List Wr := if (l.any fun y => decide (y.r = x.r)) = true then l.map (fun y => if y.r = x.r then x else y) else l ++ [x]
theorem ofR_app (l m : List Wr) (r : Str) : ofR (l ++ m) r = ofR l r ++ ofR m r := List.filter_append ..
theorem valV_kd (l : List Wr) (r : Str) : valV (kd l) (.inr r) = (findW l r).map fun x => .ref x.a := by
  induction l with
  | nil => rfl
  | cons x l ih =>
    show valV ((.inr x.r, .ref x.a) :: kd l) (.inr r) = _
    by_cases e : x.r = r
    · rw [valV_pos (by rw [e]), findW, List.find?_cons, decide_eq_true e]
      rfl
    · rw [valV_neg (fun z => e (Sum.inr.inj z)), ih, findW, findW, List.find?_cons, decide_eq_false e]
theorem valV_hd3 (l : List (Str × Addr)) (r : Str) : valV (hd3 l) (.inr r) = (l.find? fun z => decide (z.1 = r)).map fun z => .ref z.2 := by
  induction l with
  | nil => rfl
  | cons x l ih =>
    show valV ((.inr x.1, .ref x.2) :: hd3 l) (.inr r) = _
    by_cases e : x.1 = r
    · rw [valV_pos (by rw [e]), List.find?_cons, decide_eq_true e]
      rfl
    · rw [valV_neg (fun z => e (Sum.inr.inj z)), ih, List.find?_cons, decide_eq_false e]
theorem putK_kd (l : List Wr) (x : Wr) : putK (kd l) (.inr x.r) (.ref x.a) = kd (putW l x) := by
  have e1 : ((kd l).any fun kv => decide (kv.1 = (Sum.inr x.r : Key))) = (l.any fun y => decide (y.r = x.r)) := by
    unfold kd
    rw [List.any_map]
    congr 1
    funext y
    show decide ((Sum.inr y.r : Key) = Sum.inr x.r) = decide (y.r = x.r)
    rw [decide_eq_decide]
    exact ⟨fun z => Sum.inr.inj z, fun z => by rw [z]⟩
  unfold putK putW
  rw [e1]
  split
  · unfold kd
    rw [List.map_map, List.map_map]
    apply List.map_congr_left
    intro y _
    by_cases e : y.r = x.r
    · simp [e]
    · have e2 : ¬ (Sum.inr y.r : Key) = Sum.inr x.r := fun z => e (Sum.inr.inj z)
      simp [e, e2]
  · unfold kd
    rw [List.map_append]
    rfl
theorem dropK_hd3 (l : List (Str × Addr)) (r : Str) : dropK (hd3 l) (.inr r) = hd3 (l.filter fun z => decide (z.1 ≠ r)) := by
  unfold dropK hd3
  rw [List.filter_map]
  congr 1
  apply List.filter_congr
  intro z _
  show decide ((Sum.inr z.1 : Key) ≠ Sum.inr r) = decide (z.1 ≠ r)
  rw [decide_eq_decide]
  exact ⟨fun h e => h (by rw [e]), fun h e => h (Sum.inr.inj e)⟩
theorem len_kd (l : List Wr) : (kd l).length = l.length := List.length_map ..
theorem len_hd3 (l : List (Str × Addr)) : (hd3 l).length = l.length := List.length_map ..
theorem len_putW (l : List Wr) (x : Wr) : (putW l x).length ≤ l.length + 1 := by
  unfold putW
  split
  · rw [List.length_map]
    exact Nat.le_succ _
  · rw [List.length_append]
    exact Nat.le_refl _
theorem mem_putW {l : List Wr} {x y : Wr} (h : y ∈ putW l x) : y ∈ l ∨ y = x := by
  unfold putW at h
  split at h
  · rcases List.mem_map.mp h with ⟨z, hz, e⟩
    split at e
    · exact .inr e.symm
    · exact .inl (e ▸ hz)
  · rcases List.mem_append.mp h with h | h
    · exact .inl h
    · exact .inr (List.mem_singleton.mp h)
theorem find_putW (l : List Wr) (x : Wr) (r : Str) : findW (putW l x) r = if x.r = r then some x else findW l r := by
  unfold putW
  split
  · rename_i h
    unfold findW
    induction l with
    | nil => cases h
    | cons y l ih =>
      rw [List.map_cons, List.find?_cons, List.find?_cons]
      by_cases e : y.r = x.r
      · rw [if_pos e]
        by_cases e2 : x.r = r
        · rw [if_pos e2, decide_eq_true e2]
        · rw [if_neg e2, decide_eq_false e2, decide_eq_false (fun z => e2 (e ▸ z))]
          dsimp only
          by_cases hl : (l.any fun y => decide (y.r = x.r)) = true
          · rw [ih hl, if_neg e2]
          · congr 1
            have : l.map (fun y => if y.r = x.r then x else y) = l := by
              conv => rhs; rw [← List.map_id l]
              apply List.map_congr_left
              intro z hz
              rw [if_neg]
              · rfl
              · intro q
                exact hl (List.any_eq_true.mpr ⟨z, hz, decide_eq_true q⟩)
            rw [this]
      · have hl : (l.any fun y => decide (y.r = x.r)) = true := by
          rw [List.any_cons, decide_eq_false e, Bool.false_or] at h
          exact h
        rw [if_neg e]
        by_cases e2 : y.r = r
        · rw [decide_eq_true e2, if_neg (fun z => e (e2.trans z.symm))]
        · rw [decide_eq_false e2]
          exact ih hl
  · rename_i h
    unfold findW
    rw [List.find?_append]
    by_cases e : x.r = r
    · rw [if_pos e]
      have : (l.find? fun x => decide (x.r = r)) = none := by
        rw [List.find?_eq_none]
        intro z hz q
        exact h (List.any_eq_true.mpr ⟨z, hz, decide_eq_true ((of_decide_eq_true q).trans e.symm)⟩)
      rw [this, List.find?_cons, decide_eq_true e]
      rfl
    · rw [if_neg e, List.find?_cons, decide_eq_false e]
      simp
theorem find_fold (r : Str) : ∀ (own kept : List Wr), findW (own.foldl putW kept) r = ((ofR own r).getLast?).or (findW kept r)
  | [], kept => rfl
  | x :: own, kept => by
    rw [List.foldl_cons, find_fold r own (putW kept x), find_putW]
    show _ = ((List.filter (fun x => decide (x.r = r)) (x :: own)).getLast?).or _
    rw [List.filter_cons]
    by_cases e : x.r = r
    · rw [if_pos e, if_pos (decide_eq_true e)]
      show _ = ((x :: ofR own r).getLast?).or _
      rw [List.getLast?_cons]
      cases (ofR own r).getLast? <;> rfl
    · rw [if_neg e, if_neg (by rw [decide_eq_false e]; exact Bool.false_ne_true)]
      rfl
/-! ### kinds: what is of two kinds stands at two places -/
def kin : HO → Nat
  | .lst _ => 1
  | .tup _ => 2
  | .dK _ => 3
  | .ins _ _ fs => 10 + fs.length
  | _ => 0
theorem ne_kin {H : Hp} {a b : Addr} {o u : HO} (h1 : H a = some o) (h2 : H b = some u) (n : kin o ≠ kin u) : a ≠ b := fun e => by
  rw [e, h2] at h1
  injection h1 with h1
  rw [h1] at n
  exact n rfl
structure D3 (c : Cs) (CW : Addr) (H : Hp) (F : Addr → Prop) (d : Addr) (p : DbP) (pv : V) (bl : List Addr) (made : List V) (held : List (Str × Addr)) (kept : List Wr) : Prop where
  hd : H d = some (.ins c.D p.dx (dbf pv p.b p.m p.h p.k))
  hb : H p.b = some (.lst (bl.map V.ref))
  hm : H p.m = some (.lst made)
  hh : H p.h = some (.dK (hd3 held))
  hk : H p.k = some (.dK (kd kept))
  hw : ∀ x ∈ kept, ∃ h, WAt CW H h x
  nbm : p.b ≠ p.m
  nhk : p.h ≠ p.k
  fd : F d
  fb : F p.b
  fm : F p.m
  fh : F p.h
  fk : F p.k
  fw : ∀ x ∈ kept, F x.a
section
variable {c : Cs} {CW : Addr} {H H' : Hp} {F F' : Addr → Prop} {d a : Addr} {p : DbP} {pv : V} {bl : List Addr} {made : List V} {held : List (Str × Addr)} {kept : List Wr}
theorem WAt.mv {h : V} {x : Wr} (w : WAt CW H h x) (k : ∀ o, H x.a = some o → H' x.a = some o) : WAt CW H' h x := by
  rcases w with ⟨dx, f, e⟩
  exact ⟨dx, f, k _ e⟩
theorem D3.mv (h : D3 c CW H F d p pv bl made held kept) (k : ∀ x o, F x → H x = some o → H' x = some o) (s : ∀ x, F x → F' x) : D3 c CW H' F' d p pv bl made held kept :=
  ⟨k _ _ h.fd h.hd, k _ _ h.fb h.hb, k _ _ h.fm h.hm, k _ _ h.fh h.hh, k _ _ h.fk h.hk, fun x hx => let ⟨v, w⟩ := h.hw x hx; ⟨v, w.mv fun o e => k _ _ (h.fw x hx) e⟩, h.nbm, h.nhk, s _ h.fd, s _ h.fb, s _ h.fm, s _ h.fh, s _ h.fk, fun x hx => s _ (h.fw x hx)⟩
theorem D3.off {o : HO} (h : D3 c CW H F d p pv bl made held kept) (n1 : d ≠ a) (n2 : p.b ≠ a) (n3 : p.m ≠ a) (n4 : p.h ≠ a) (n5 : p.k ≠ a) (n6 : ∀ x ∈ kept, x.a ≠ a) : D3 c CW (upd H a o) F d p pv bl made held kept :=
  ⟨by rw [upd_ne n1]; exact h.hd, by rw [upd_ne n2]; exact h.hb, by rw [upd_ne n3]; exact h.hm, by rw [upd_ne n4]; exact h.hh, by rw [upd_ne n5]; exact h.hk, fun x hx => let ⟨v, w⟩ := h.hw x hx; ⟨v, w.mv fun o e => by rw [upd_ne (n6 x hx)]; exact e⟩, h.nbm, h.nhk, h.fd, h.fb, h.fm, h.fh, h.fk, h.fw⟩
/-- at a free place -/
theorem D3.new {o : HO} (h : D3 c CW H F d p pv bl made held kept) (n : H a = none) : D3 c CW (upd H a o) F d p pv bl made held kept :=
  h.mv (fun x u _ e => by rw [upd_ne (ne_of_none e n)]; exact e) fun _ z => z
/-- at a list that is none of the database's -/
theorem D3.offL {o : HO} {xs : List V} (h : D3 c CW H F d p pv bl made held kept) (ha : H a = some (.lst xs)) (n2 : p.b ≠ a) (n3 : p.m ≠ a) : D3 c CW (upd H a o) F d p pv bl made held kept :=
  h.off (ne_kin h.hd ha (by simp [kin])) n2 n3 (ne_kin h.hh ha (by simp [kin])) (ne_kin h.hk ha (by simp [kin])) fun x hx => by
    rcases h.hw x hx with ⟨v, dx, f, e⟩
    exact ne_kin e ha (by simp [kin])
/-- at a transaction -/
theorem D3.offT {o : HO} {dx : Addr} {x y z : V} (h : D3 c CW H F d p pv bl made held kept) {C : Addr} (ha : H a = some (.ins C dx [("own", x), ("starts", y), ("first", z)])) : D3 c CW (upd H a o) F d p pv bl made held kept :=
  h.off (ne_kin h.hd ha (by show 16 ≠ 13; decide)) (ne_kin h.hb ha (by show 1 ≠ 13; decide)) (ne_kin h.hm ha (by show 1 ≠ 13; decide)) (ne_kin h.hh ha (by show 3 ≠ 13; decide)) (ne_kin h.hk ha (by show 3 ≠ 13; decide)) fun x hx => by
    rcases h.hw x hx with ⟨v, dx, f, e⟩
    exact ne_kin e ha (by show 14 ≠ 13; decide)
/-- a write's fate -/
theorem D3.fate {r f : Str} {v hv : V} {dx : Addr} {f' : Str} (h : D3 c CW H F d p pv bl made held kept) (ha : H a = some (.ins CW dx (wrf r v hv (.str f)))) : D3 c CW (upd H a (.ins CW dx (wrf r v hv (.str f')))) F d p pv bl made held kept := by
  refine ⟨by rw [upd_ne (ne_kin h.hd ha (by show 16 ≠ 14; decide))]; exact h.hd, by rw [upd_ne (ne_kin h.hb ha (by show 1 ≠ 14; decide))]; exact h.hb, by rw [upd_ne (ne_kin h.hm ha (by show 1 ≠ 14; decide))]; exact h.hm,
    by rw [upd_ne (ne_kin h.hh ha (by show 3 ≠ 14; decide))]; exact h.hh, by rw [upd_ne (ne_kin h.hk ha (by show 3 ≠ 14; decide))]; exact h.hk, fun x hx => ?_, h.nbm, h.nhk, h.fd, h.fb, h.fm, h.fh, h.fk, h.fw⟩
  rcases h.hw x hx with ⟨u, dx2, f2, e⟩
  by_cases q : x.a = a
  · rw [q, ha] at e
    injection e with e
    injection e with _ e1 e2
    simp only [List.cons.injEq, Prod.mk.injEq, V.str.injEq, true_and, and_true] at e2
    rcases e2 with ⟨e3, e4, e5, e6⟩
    exact ⟨hv, dx, f', by rw [q, upd_same, e3, e4]⟩
  · exact ⟨u, dx2, f2, by rw [upd_ne q]; exact e⟩
theorem D3.setPv (h : D3 c CW H F d p pv bl made held kept) (uv : V) : D3 c CW (upd H d (.ins c.D p.dx (dbf uv p.b p.m p.h p.k))) F d p uv bl made held kept :=
  ⟨upd_same, by rw [upd_ne (ne_kin h.hb h.hd (by simp [kin]))]; exact h.hb, by rw [upd_ne (ne_kin h.hm h.hd (by simp [kin]))]; exact h.hm, by rw [upd_ne (ne_kin h.hh h.hd (by simp [kin]))]; exact h.hh, by rw [upd_ne (ne_kin h.hk h.hd (by simp [kin]))]; exact h.hk,
    fun x hx => let ⟨v, w⟩ := h.hw x hx; ⟨v, w.mv fun o e => by
      rcases w with ⟨dx, f, e2⟩
      rw [upd_ne (ne_kin e2 h.hd (by show 14 ≠ 16; decide))]
      exact e⟩, h.nbm, h.nhk, h.fd, h.fb, h.fm, h.fh, h.fk, h.fw⟩
theorem D3.setBl (h : D3 c CW H F d p pv bl made held kept) (l : List Addr) : D3 c CW (upd H p.b (.lst (l.map V.ref))) F d p pv l made held kept :=
  ⟨by rw [upd_ne (ne_kin h.hd h.hb (by simp [kin]))]; exact h.hd, upd_same, by rw [upd_ne h.nbm.symm]; exact h.hm, by rw [upd_ne (ne_kin h.hh h.hb (by simp [kin]))]; exact h.hh, by rw [upd_ne (ne_kin h.hk h.hb (by simp [kin]))]; exact h.hk,
    fun x hx => let ⟨v, w⟩ := h.hw x hx; ⟨v, w.mv fun o e => by
      rcases w with ⟨dx, f, e2⟩
      rw [upd_ne (ne_kin e2 h.hb (by show 14 ≠ 1; decide))]
      exact e⟩, h.nbm, h.nhk, h.fd, h.fb, h.fm, h.fh, h.fk, h.fw⟩
theorem D3.setMade (h : D3 c CW H F d p pv bl made held kept) (l : List V) : D3 c CW (upd H p.m (.lst l)) F d p pv bl l held kept :=
  ⟨by rw [upd_ne (ne_kin h.hd h.hm (by simp [kin]))]; exact h.hd, by rw [upd_ne h.nbm]; exact h.hb, upd_same, by rw [upd_ne (ne_kin h.hh h.hm (by simp [kin]))]; exact h.hh, by rw [upd_ne (ne_kin h.hk h.hm (by simp [kin]))]; exact h.hk,
    fun x hx => let ⟨v, w⟩ := h.hw x hx; ⟨v, w.mv fun o e => by
      rcases w with ⟨dx, f, e2⟩
      rw [upd_ne (ne_kin e2 h.hm (by show 14 ≠ 1; decide))]
      exact e⟩, h.nbm, h.nhk, h.fd, h.fb, h.fm, h.fh, h.fk, h.fw⟩
theorem D3.setHeld (h : D3 c CW H F d p pv bl made held kept) (l : List (Str × Addr)) : D3 c CW (upd H p.h (.dK (hd3 l))) F d p pv bl made l kept :=
  ⟨by rw [upd_ne (ne_kin h.hd h.hh (by simp [kin]))]; exact h.hd, by rw [upd_ne (ne_kin h.hb h.hh (by simp [kin]))]; exact h.hb, by rw [upd_ne (ne_kin h.hm h.hh (by simp [kin]))]; exact h.hm, upd_same, by rw [upd_ne h.nhk.symm]; exact h.hk,
    fun x hx => let ⟨v, w⟩ := h.hw x hx; ⟨v, w.mv fun o e => by
      rcases w with ⟨dx, f, e2⟩
      rw [upd_ne (ne_kin e2 h.hh (by show 14 ≠ 3; decide))]
      exact e⟩, h.nbm, h.nhk, h.fd, h.fb, h.fm, h.fh, h.fk, h.fw⟩
theorem D3.setKept (h : D3 c CW H F d p pv bl made held kept) {x : Wr} {hv : V} (w : WAt CW H hv x) (fx : F x.a) : D3 c CW (upd H p.k (.dK (putK (kd kept) (.inr x.r) (.ref x.a)))) F d p pv bl made held (putW kept x) := by
  have go : ∀ y u, WAt CW H u y → WAt CW (upd H p.k (.dK (putK (kd kept) (.inr x.r) (.ref x.a)))) u y := fun y u w => w.mv fun o e => by
    rcases w with ⟨dx, f, e2⟩
    rw [upd_ne (ne_kin e2 h.hk (by show 14 ≠ 3; decide))]
    exact e
  refine ⟨by rw [upd_ne (ne_kin h.hd h.hk (by simp [kin]))]; exact h.hd, by rw [upd_ne (ne_kin h.hb h.hk (by simp [kin]))]; exact h.hb, by rw [upd_ne (ne_kin h.hm h.hk (by simp [kin]))]; exact h.hm, by rw [upd_ne h.nhk]; exact h.hh, by rw [upd_same, putK_kd],
    fun y hy => ?_, h.nbm, h.nhk, h.fd, h.fb, h.fm, h.fh, h.fk, fun y hy => ?_⟩
  · rcases mem_putW hy with q | q
    · exact let ⟨u, w⟩ := h.hw y q; ⟨u, go _ _ w⟩
    · exact ⟨hv, go _ _ (q ▸ w)⟩
  · rcases mem_putW hy with q | q
    · exact h.fw y q
    · exact q ▸ fx
end
end IC
namespace IC
open PySem L2 TL
/-! ### frames by what a database owns -/
structure Fr (F F' : Addr → Prop) (H H' : Hp) : Prop where
  k : ∀ x o, H x = some o → ¬ F x → H' x = some o
  s : ∀ x, F x → F' x
  n : ∀ x, F' x → F x ∨ H x = none
section
variable {F F1 F2 : Addr → Prop} {H H1 H2 : Hp} {a : Addr} {o : HO}
theorem Fr.refl (F : Addr → Prop) (H : Hp) : Fr F F H H := ⟨fun _ _ e _ => e, fun _ h => h, fun _ h => .inl h⟩
theorem Fr.trans (a : Fr F F1 H H1) (b : Fr F1 F2 H1 H2) : Fr F F2 H H2 := by
  refine ⟨fun x o e n => b.k x o (a.k x o e n) fun f => ?_, fun x f => b.s x (a.s x f), fun x f => ?_⟩
  · rcases a.n x f with q | q
    · exact n q
    · rw [q] at e
      cases e
  · rcases b.n x f with q | q
    · exact a.n x q
    · by_cases f0 : F x
      · exact .inl f0
      · cases e : H x with
        | none => exact .inr rfl
        | some u =>
          rw [a.k x u e f0] at q
          cases q
theorem Fr.new (n : H a = none) : Fr F F H (upd H a o) := ⟨fun x u e _ => by rw [upd_ne (ne_of_none e n)]; exact e, fun _ h => h, fun _ h => .inl h⟩
theorem Fr.add (n : H a = none) : Fr F (fun x => F x ∨ x = a) H (upd H a o) := ⟨fun x u e _ => by rw [upd_ne (ne_of_none e n)]; exact e, fun _ h => .inl h, fun x h => h.imp id fun e => by rw [e]; exact n⟩
theorem Fr.at_ (f : F a) : Fr F F H (upd H a o) := ⟨fun x u e n => by
  have q : x ≠ a := fun z => n (z ▸ f)
  rw [upd_ne q]
  exact e, fun _ h => h, fun _ h => .inl h⟩
theorem Fr.same (s : Same H H1) : Fr F F H H1 := ⟨fun x u e _ => s x u e, fun _ h => h, fun _ h => .inl h⟩
end
/-! ### the transaction -/
structure P3 where
  t : Addr
  q : TrP
  own : List Wr
  held : List (Str × Addr)
  e : Addr
  ds : List Addr
structure T3 (c : Cs) (CW : Addr) (H : Hp) (F : Addr → Prop) (p : DbP) (P : P3) : Prop where
  ht : H P.t = some (.ins c.T P.q.dx (trf P.q.o P.q.s .non))
  ho : H P.q.o = some (.lst (refs P.own))
  hs : H P.q.s = some (.lst [.int 0])
  hw : ∀ x ∈ P.own, WAt CW H (.ref P.t) x
  hl : ∀ z ∈ P.held, H z.2 = some (.lst (refs (ofR P.own z.1))) ∧ ofR P.own z.1 ≠ []
  all : ∀ x ∈ P.own, ∃ z ∈ P.held, z.1 = x.r
  one : ∀ z ∈ P.held, ∀ y ∈ P.held, z.1 = y.1 ∨ z.2 = y.2 → z = y
  nos : P.q.o ≠ P.q.s
  nob : P.q.o ≠ p.b
  nom : P.q.o ≠ p.m
  nsb : P.q.s ≠ p.b
  nsm : P.q.s ≠ p.m
  nl : ∀ z ∈ P.held, z.2 ≠ P.q.o ∧ z.2 ≠ P.q.s ∧ z.2 ≠ p.b ∧ z.2 ≠ p.m
  he : H P.e = some (.tup [.str "ends", .non])
  hd : ∀ y ∈ P.ds, H y = some (.tup [.str "dooms", .ref P.t])
  ft : F P.t
  fo : F P.q.o
  fs : F P.q.s
  fe : F P.e
  fw : ∀ x ∈ P.own, F x.a
  fl : ∀ z ∈ P.held, F z.2
  fd : ∀ y ∈ P.ds, F y
def P3.comp (P : P3) (x : Addr) : Prop := x = P.t ∨ x = P.q.o ∨ x = P.q.s ∨ (∃ w ∈ P.own, w.a = x) ∨ (∃ z ∈ P.held, z.2 = x) ∨ x = P.e ∨ x ∈ P.ds
section
variable {c : Cs} {CW : Addr} {H H' : Hp} {F F' : Addr → Prop} {d a : Addr} {p : DbP} {pv : V} {bl : List Addr} {made : List V} {held : List (Str × Addr)} {kept : List Wr} {P : P3}
theorem T3.mvc (h : T3 c CW H F p P) (k : ∀ x o, P.comp x → H x = some o → H' x = some o) (s : ∀ x, F x → F' x) : T3 c CW H' F' p P where
  ht := k _ _ (.inl rfl) h.ht
  ho := k _ _ (.inr (.inl rfl)) h.ho
  hs := k _ _ (.inr (.inr (.inl rfl))) h.hs
  hw := fun x hx => (h.hw x hx).mv fun o e => k _ _ (.inr (.inr (.inr (.inl ⟨x, hx, rfl⟩)))) e
  hl := fun z hz => ⟨k _ _ (.inr (.inr (.inr (.inr (.inl ⟨z, hz, rfl⟩))))) (h.hl z hz).1, (h.hl z hz).2⟩
  all := h.all
  one := h.one
  nos := h.nos
  nob := h.nob
  nom := h.nom
  nsb := h.nsb
  nsm := h.nsm
  nl := h.nl
  he := k _ _ (.inr (.inr (.inr (.inr (.inr (.inl rfl)))))) h.he
  hd := fun y hy => k _ _ (.inr (.inr (.inr (.inr (.inr (.inr hy)))))) (h.hd y hy)
  ft := s _ h.ft
  fo := s _ h.fo
  fs := s _ h.fs
  fe := s _ h.fe
  fw := fun x hx => s _ (h.fw x hx)
  fl := fun z hz => s _ (h.fl z hz)
  fd := fun y hy => s _ (h.fd y hy)
theorem T3.comp_f (h : T3 c CW H F p P) {x : Addr} (hx : P.comp x) : F x := by
  rcases hx with rfl | rfl | rfl | ⟨w, hw, rfl⟩ | ⟨z, hz, rfl⟩ | rfl | hy
  · exact h.ft
  · exact h.fo
  · exact h.fs
  · exact h.fw w hw
  · exact h.fl z hz
  · exact h.fe
  · exact h.fd x hy
theorem T3.mv (h : T3 c CW H F p P) (k : ∀ x o, F x → H x = some o → H' x = some o) (s : ∀ x, F x → F' x) : T3 c CW H' F' p P := h.mvc (fun x o hx e => k x o (h.comp_f hx) e) s
theorem T3.new {o : HO} (h : T3 c CW H F p P) (n : H a = none) : T3 c CW (upd H a o) F p P := h.mv (fun x u _ e => by rw [upd_ne (ne_of_none e n)]; exact e) fun _ z => z
/-- what a transaction consists of is none of the database's own places -/
theorem T3.apart (h : T3 c CW H F p P) (g : D3 c CW H F d p pv bl made held kept) {x : Addr} (hx : P.comp x) : x ≠ d ∧ x ≠ p.b ∧ x ≠ p.m ∧ x ≠ p.h ∧ x ≠ p.k := by
  rcases hx with rfl | rfl | rfl | ⟨w, hw, rfl⟩ | ⟨z, hz, rfl⟩ | rfl | hy
  · exact ⟨ne_kin h.ht g.hd (by simp [kin]), ne_kin h.ht g.hb (by simp [kin]), ne_kin h.ht g.hm (by simp [kin]), ne_kin h.ht g.hh (by simp [kin]), ne_kin h.ht g.hk (by simp [kin])⟩
  · exact ⟨ne_kin h.ho g.hd (by simp [kin]), h.nob, h.nom, ne_kin h.ho g.hh (by simp [kin]), ne_kin h.ho g.hk (by simp [kin])⟩
  · exact ⟨ne_kin h.hs g.hd (by simp [kin]), h.nsb, h.nsm, ne_kin h.hs g.hh (by simp [kin]), ne_kin h.hs g.hk (by simp [kin])⟩
  · rcases h.hw w hw with ⟨dx, f, e⟩
    exact ⟨ne_kin e g.hd (by simp [kin]), ne_kin e g.hb (by simp [kin]), ne_kin e g.hm (by simp [kin]), ne_kin e g.hh (by simp [kin]), ne_kin e g.hk (by simp [kin])⟩
  · have e := (h.hl z hz).1
    have n := h.nl z hz
    exact ⟨ne_kin e g.hd (by simp [kin]), n.2.2.1, n.2.2.2, ne_kin e g.hh (by simp [kin]), ne_kin e g.hk (by simp [kin])⟩
  · exact ⟨ne_kin h.he g.hd (by simp [kin]), ne_kin h.he g.hb (by simp [kin]), ne_kin h.he g.hm (by simp [kin]), ne_kin h.he g.hh (by simp [kin]), ne_kin h.he g.hk (by simp [kin])⟩
  · have e := h.hd x hy
    exact ⟨ne_kin e g.hd (by simp [kin]), ne_kin e g.hb (by simp [kin]), ne_kin e g.hm (by simp [kin]), ne_kin e g.hh (by simp [kin]), ne_kin e g.hk (by simp [kin])⟩
/-- a change at a place that is none of the transaction's -/
theorem T3.off {o : HO} (h : T3 c CW H F p P) (n : ∀ x, P.comp x → x ≠ a) : T3 c CW (upd H a o) F p P := h.mvc (fun x u hx e => by rw [upd_ne (n x hx)]; exact e) fun _ z => z
/-- a block more in the transaction -/
theorem T3.dsCons {ds : List Addr} (h : T3 c CW H F p P) (hy : ∀ z ∈ ds, H z = some (.tup [.str "dooms", .ref P.t])) (fy : ∀ z ∈ ds, F z) : T3 c CW H F p { P with ds := ds } where
  ht := h.ht
  ho := h.ho
  hs := h.hs
  hw := h.hw
  hl := h.hl
  all := h.all
  one := h.one
  nos := h.nos
  nob := h.nob
  nom := h.nom
  nsb := h.nsb
  nsm := h.nsm
  nl := h.nl
  he := h.he
  hd := hy
  ft := h.ft
  fo := h.fo
  fs := h.fs
  fe := h.fe
  fw := h.fw
  fl := h.fl
  fd := fy
end
/-! ### the whole -/
structure S3 where
  d : Addr
  p : DbP
  made : List V
  kept : List Wr
  pre : List Addr
  pr : Option P3
def pvO : Option P3 → V
  | none => .non
  | some P => .ref P.t
def blO (pre : List Addr) : Option P3 → List Addr
  | none => pre
  | some P => pre ++ (P.e :: P.ds)
def heO : Option P3 → List (Str × Addr)
  | none => []
  | some P => P.held
def owO : Option P3 → List Wr
  | none => []
  | some P => P.own
def S3.see (S : S3) (r : Str) : Option Wr := ((ofR (owO S.pr) r).getLast?).or (findW S.kept r)
structure Db3 (c : Cs) (CW : Addr) (H : Hp) (F : Addr → Prop) (S : S3) : Prop where
  db : D3 c CW H F S.d S.p (pvO S.pr) (blO S.pre S.pr) S.made (heO S.pr) S.kept
  np : ∀ y ∈ S.pre, H y = some (.tup [.str "nothing", .non]) ∧ F y
  tr : ∀ P, S.pr = some P → T3 c CW H F S.p P
/-- how many writes, blocks -/
structure Sz (S : S3) (n : Nat) : Prop where
  m : S.made.length ≤ n
  b : (blO S.pre S.pr).length ≤ n
  k : S.kept.length + (owO S.pr).length ≤ n
  h : (heO S.pr).length ≤ (owO S.pr).length
theorem Sz.up {S : S3} {n m : Nat} (h : Sz S n) (e : n ≤ m) : Sz S m := ⟨Nat.le_trans h.m e, Nat.le_trans h.b e, Nat.le_trans h.k e, h.h⟩
theorem Db3.mv {c : Cs} {CW : Addr} {H H' : Hp} {F : Addr → Prop} {S : S3} (h : Db3 c CW H F S) (k : ∀ x o, F x → H x = some o → H' x = some o) : Db3 c CW H' F S :=
  ⟨h.db.mv k fun _ z => z, fun y hy => ⟨k _ _ (h.np y hy).2 (h.np y hy).1, (h.np y hy).2⟩, fun P e => (h.tr P e).mv k fun _ z => z⟩
theorem Db3.same {c : Cs} {CW : Addr} {H H' : Hp} {F : Addr → Prop} {S : S3} (h : Db3 c CW H F S) (s : Same H H') : Db3 c CW H' F S := h.mv fun x o _ e => s x o e
/-- what another does does not touch it -/
theorem Db3.far {c : Cs} {CW : Addr} {H H' : Hp} {F G G' : Addr → Prop} {S : S3} (h : Db3 c CW H F S) (r : Fr G G' H H') (n : ∀ x, F x → ¬ G x) : Db3 c CW H' F S := h.mv fun x o f e => r.k x o e (n x f)
/-! ### promises -/
def spTr3 (c : Cs) : Sp := spTrInit c
def spDb3 (c : Cs) (CW : Addr) : Sp := fun vs H Q _ => ∃ (d dx : Addr), vs = [.ref d] ∧ H d = some (.ins c.D dx []) ∧ ∀ (H' : Hp) (F' : Addr → Prop) (S : S3), Kp [d] H H' → (∀ x, F' x → x = d ∨ H x = none) → S.d = d → S.pr = none → S.kept = [] → S.pre = [] → S.made = [] → Db3 c CW H' F' S → Q .non H'
def spWr (CW : Addr) : Sp := fun vs H Q _ => ∃ (a dx : Addr) (r : Str) (v h : V), vs = [.ref a, .str r, v, h] ∧ H a = some (.ins CW dx []) ∧ Q .non (upd H a (.ins CW dx (wrf r v h (.str "open"))))
/-- a property, a method that only looks; the database stands -/
def spLook (c : Cs) (CW : Addr) (n : Nat) (g : S3 → List V → V → Prop) : Sp := fun vs H Q _ => ∃ (S : S3) (F : Addr → Prop) (us : List V) (v : V), vs = .ref S.d :: us ∧ us.length = n ∧ Db3 c CW H F S ∧ Sz S 1000 ∧ g S us v ∧ Q v H
def Ev (c : Cs) (CW : Addr) (H : Hp) (F : Addr → Prop) (S : S3) (n : Nat) (R : S3 → Prop) (Q : V → Hp → Prop) (v : V) : Prop := ∀ (H' : Hp) (F' : Addr → Prop) (S' : S3), Fr F F' H H' → Db3 c CW H' F' S' → S'.d = S.d → Sz S' n → R S' → Q v H'
def spEnter3 (c : Cs) (CW : Addr) : Sp := fun vs H Q _ => ∃ (S : S3) (F : Addr → Prop) (z : Str) (n : Nat), vs = [.ref S.d, .str z] ∧ (z = "join" ∨ z = "either") ∧ Db3 c CW H F S ∧ Sz S n ∧ n ≤ 900 ∧
  Ev c CW H F S (n + 1) (fun S' => (blO S'.pre S'.pr).length = (blO S.pre S.pr).length + 1 ∧ ∀ r, S'.see r = S.see r) Q .non
def spFree3 (c : Cs) (CW : Addr) : Sp := fun vs H Q _ => ∃ (S : S3) (F : Addr → Prop) (z : Str), vs = [.ref S.d, .str z] ∧ S.pr = none ∧ Db3 c CW H F S ∧
  ((z = "either" ∧ ∀ H', Same H H' → Q (.str "nothing") H') ∨
   (z = "join" ∧ ∀ (H' : Hp) (F' : Addr → Prop) (t : Addr) (q : TrP), Fr F F' H H' → D3 c CW H' F' S.d S.p (.ref t) S.pre S.made [] S.kept → H t = none → H q.o = none → H q.s = none → F' t → F' q.o → F' q.s → q.o ≠ q.s →
     H' t = some (.ins c.T q.dx (trf q.o q.s .non)) → H' q.o = some (.lst []) → H' q.s = some (.lst [.int 0]) → (∀ x xs, H x = some (.tup xs) → H' x = some (.tup xs)) → Q (.str "ends") H'))
def spPres3 (c : Cs) (CW : Addr) : Sp := fun vs H Q _ => ∃ (d t : Addr) (z : Str), vs = [.ref d, .str z, .ref t] ∧ (z = "join" ∨ z = "either") ∧ ∀ H', Same H H' → Q (.str "dooms") H'
def spLeave3 (c : Cs) (CW : Addr) : Sp := fun vs H Q _ => ∃ (S : S3) (F : Addr → Prop) (n : Nat), vs = [.ref S.d, .non, .bl true] ∧ Db3 c CW H F S ∧ Sz S n ∧ n ≤ 900 ∧ 0 < (blO S.pre S.pr).length ∧
  Ev c CW H F S n (fun S' => (blO S'.pre S'.pr).length + 1 = (blO S.pre S.pr).length ∧ ∀ r, S'.see r = S.see r) Q .non
def spEndB3 (c : Cs) (CW : Addr) : Sp := fun vs H Q _ => ∃ (S : S3) (F : Addr → Prop) (n : Nat), vs = [.ref S.d, .non, .bl true] ∧ Db3 c CW H F S ∧ Sz S n ∧ n ≤ 900 ∧ 0 < (blO S.pre S.pr).length ∧
  Ev c CW H F S n (fun S' => (blO S'.pre S'.pr).length + 1 = (blO S.pre S.pr).length ∧ ∀ r, S'.see r = S.see r) Q (.str "")
/-- the transaction P ends: its writes are kept -/
def spEndL3 (c : Cs) (CW : Addr) : Sp := fun vs H Q _ => ∃ (d : Addr) (p : DbP) (pre : List Addr) (made : List V) (kept : List Wr) (F : Addr → Prop) (P : P3), vs = [.ref d, .ref P.t, .non, .bl true] ∧ D3 c CW H F d p .non pre made P.held kept ∧ T3 c CW H F p P ∧ P.own.length ≤ 900 ∧ kept.length + P.own.length ≤ 900 ∧
  ∀ H', Fr F F H H' → D3 c CW H' F d p .non pre made [] (P.own.foldl putW kept) → (∀ x xs, H x = some (.tup xs) → H' x = some (.tup xs)) → Q (.str "") H'
/-- the writes own are kept -/
def spKeep3 (c : Cs) (CW : Addr) : Sp := fun vs H Q _ => ∃ (d t : Addr) (p : DbP) (pre : List Addr) (made : List V) (held : List (Str × Addr)) (kept own : List Wr) (F : Addr → Prop) (q : TrP) (sv : List V), vs = [.ref d, .ref t] ∧ D3 c CW H F d p .non pre made held kept ∧
  H t = some (.ins c.T q.dx (trf q.o q.s .non)) ∧ H q.o = some (.lst (refs own)) ∧ q.o ≠ p.b ∧ q.o ≠ p.m ∧ (∀ x ∈ own, WAt CW H (.ref t) x ∧ F x.a) ∧ (∀ z ∈ held, ∃ x ∈ own, x.r = z.1) ∧ own.length ≤ 900 ∧ kept.length + own.length ≤ 900 ∧
  ∀ H', Fr F F H H' → D3 c CW H' F d p .non pre made [] (own.foldl putW kept) → (∀ x xs, H x = some (.tup xs) → H' x = some (.tup xs)) → Q .non H'
def spSet3 (c : Cs) (CW : Addr) : Sp := fun vs H Q _ => ∃ (S : S3) (F : Addr → Prop) (n : Nat) (r : Str) (v : V), vs = [.ref S.d, .str r, v] ∧ IsW r ∧ Db3 c CW H F S ∧ Sz S n ∧ n ≤ 900 ∧
  Ev c CW H F S (n + 1) (fun S' => (blO S'.pre S'.pr).length = (blO S.pre S.pr).length ∧ ∀ z, (S'.see z).map (·.v) = if z = r then some v else (S.see z).map (·.v)) (fun _ H' => Q .non H') .non
end IC
namespace IC
open PySem L2 TL
/-! ### the text by places -/
def top (i : Nat) : Stmt := PySem.Challenge.pw_innercommits_k03_values_of_records.main.body.getD i (.Pass ⟨0, 0, 0, 0⟩)
abbrev s_law_pool : Stmt := top 23
abbrev s_law_draw : Stmt := top 24
abbrev s_law_word : Stmt := top 25
abbrev s_is_word : Stmt := top 13
abbrev s_Mode_is_mode : Stmt := inClass (top 14) 9
abbrev s_BadWord___init__ : Stmt := inClass (top 3) 0
abbrev s_NoRecord___init__ : Stmt := inClass (top 6) 0
abbrev s_Write___init__ : Stmt := inClass (top 19) 0
abbrev s_Transaction___init__ : Stmt := inClass (top 20) 0
abbrev s_Database___init__ : Stmt := inClass (top 21) 0
abbrev s_Database__enter_free : Stmt := inClass (top 21) 3
abbrev s_Database__enter_present : Stmt := inClass (top 21) 4
abbrev s_Database_enter : Stmt := inClass (top 21) 2
abbrev s_Database_reason : Stmt := inClass (top 21) 18
abbrev s_Database_is_doomed : Stmt := inClass (top 21) 17
abbrev s_Database__keep : Stmt := inClass (top 21) 9
abbrev s_Database__end_level : Stmt := inClass (top 21) 7
abbrev s_Database__end_block : Stmt := inClass (top 21) 6
abbrev s_Database_leave : Stmt := inClass (top 21) 5
abbrev s_Database__is_holder : Stmt := inClass (top 21) 12
abbrev s_Database_holds : Stmt := inClass (top 21) 21
abbrev s_Database_has_suspended : Stmt := inClass (top 21) 22
abbrev s_Database__seen : Stmt := inClass (top 21) 11
abbrev s_Database___setitem__ : Stmt := inClass (top 21) 10
abbrev s_Database___getitem__ : Stmt := inClass (top 21) 13
abbrev s_Database___contains__ : Stmt := inClass (top 21) 14
abbrev s_law_seen : Stmt := top 26
abbrev s_law_odd : Stmt := top 27
abbrev s_law_deed : Stmt := top 28
abbrev s_law : Stmt := top 29
theorem sc_law_pool : FnScope ["script", "at", "cell", "size", "seed"] ["script", "at"] (defScope s_law_pool) := ⟨rfl, rfl, rfl, by decide +kernel, rfl, by decide +kernel, by decide +kernel⟩
theorem sc_law_draw : FnScope ["pool", "many", "digit", "count", "mixed"] ["pool", "many"] (defScope s_law_draw) := ⟨rfl, rfl, rfl, by decide +kernel, rfl, by decide +kernel, by decide +kernel⟩
theorem sc_law_word : FnScope ["pool", "letters", "k"] ["pool"] (defScope s_law_word) := ⟨rfl, rfl, rfl, by decide +kernel, rfl, by decide +kernel, by decide +kernel⟩
theorem sc_is_word : FnScope ["thing", "letter"] ["thing"] (defScope s_is_word) := ⟨rfl, rfl, rfl, by decide +kernel, rfl, by decide +kernel, by decide +kernel⟩
theorem sc_Mode_is_mode : FnScope ["thing"] ["thing"] (defScope s_Mode_is_mode) := ⟨rfl, rfl, rfl, by decide +kernel, rfl, by decide +kernel, by decide +kernel⟩
theorem sc_BadWord___init__ : FnScope ["self", "word"] ["self", "word"] (defScope s_BadWord___init__) := ⟨rfl, rfl, rfl, by decide +kernel, rfl, by decide +kernel, by decide +kernel⟩
theorem sc_NoRecord___init__ : FnScope ["self", "record"] ["self", "record"] (defScope s_NoRecord___init__) := ⟨rfl, rfl, rfl, by decide +kernel, rfl, by decide +kernel, by decide +kernel⟩
theorem sc_Write___init__ : FnScope ["self", "record", "value", "holder"] ["self", "record", "value", "holder"] (defScope s_Write___init__) := ⟨rfl, rfl, rfl, by decide +kernel, rfl, by decide +kernel, by decide +kernel⟩
theorem sc_Transaction___init__ : FnScope ["self"] ["self"] (defScope s_Transaction___init__) := ⟨rfl, rfl, rfl, by decide +kernel, rfl, by decide +kernel, by decide +kernel⟩
theorem sc_Database___init__ : FnScope ["self"] ["self"] (defScope s_Database___init__) := ⟨rfl, rfl, rfl, by decide +kernel, rfl, by decide +kernel, by decide +kernel⟩
theorem sc_Database__enter_free : FnScope ["self", "mode"] ["self", "mode"] (defScope s_Database__enter_free) := ⟨rfl, rfl, rfl, by decide +kernel, rfl, by decide +kernel, by decide +kernel⟩
theorem sc_Database__enter_present : FnScope ["self", "mode", "present"] ["self", "mode", "present"] (defScope s_Database__enter_present) := ⟨rfl, rfl, rfl, by decide +kernel, rfl, by decide +kernel, by decide +kernel⟩
theorem sc_Database_enter : FnScope ["self", "mode", "before", "effect"] ["self", "mode"] (defScope s_Database_enter) := ⟨rfl, rfl, rfl, by decide +kernel, rfl, by decide +kernel, by decide +kernel⟩
theorem sc_Database_reason : FnScope ["self"] ["self"] (defScope s_Database_reason) := ⟨rfl, rfl, rfl, by decide +kernel, rfl, by decide +kernel, by decide +kernel⟩
theorem sc_Database_is_doomed : FnScope ["self"] ["self"] (defScope s_Database_is_doomed) := ⟨rfl, rfl, rfl, by decide +kernel, rfl, by decide +kernel, by decide +kernel⟩
theorem sc_Database__keep : FnScope ["self", "transaction", "write"] ["self", "transaction"] (defScope s_Database__keep) := ⟨rfl, rfl, rfl, by decide +kernel, rfl, by decide +kernel, by decide +kernel⟩
theorem sc_Database__end_level : FnScope ["self", "transaction", "error", "commits", "start", "first"] ["self", "transaction", "error", "commits"] (defScope s_Database__end_level) := ⟨rfl, rfl, rfl, by decide +kernel, rfl, by decide +kernel, by decide +kernel⟩
theorem sc_Database__end_block : FnScope ["self", "error", "commits", "effect", "before", "present"] ["self", "error", "commits"] (defScope s_Database__end_block) := ⟨rfl, rfl, rfl, by decide +kernel, rfl, by decide +kernel, by decide +kernel⟩
theorem sc_Database_leave : FnScope ["self", "error", "commits", "first", "ending"] ["self", "error", "commits"] (defScope s_Database_leave) := ⟨rfl, rfl, rfl, by decide +kernel, rfl, by decide +kernel, by decide +kernel⟩
theorem sc_Database__is_holder : FnScope ["self", "record"] ["self", "record"] (defScope s_Database__is_holder) := ⟨rfl, rfl, rfl, by decide +kernel, rfl, by decide +kernel, by decide +kernel⟩
theorem sc_Database_holds : FnScope ["self", "record"] ["self", "record"] (defScope s_Database_holds) := ⟨rfl, rfl, rfl, by decide +kernel, rfl, by decide +kernel, by decide +kernel⟩
theorem sc_Database_has_suspended : FnScope ["self", "record"] ["self", "record"] (defScope s_Database_has_suspended) := ⟨rfl, rfl, rfl, by decide +kernel, rfl, by decide +kernel, by decide +kernel⟩
theorem sc_Database__seen : FnScope ["self", "record"] ["self", "record"] (defScope s_Database__seen) := ⟨rfl, rfl, rfl, by decide +kernel, rfl, by decide +kernel, by decide +kernel⟩
theorem sc_Database___setitem__ : FnScope ["self", "at", "worth", "present", "write"] ["self", "at", "worth"] (defScope s_Database___setitem__) := ⟨rfl, rfl, rfl, by decide +kernel, rfl, by decide +kernel, by decide +kernel⟩
theorem sc_Database___getitem__ : FnScope ["self", "at", "write"] ["self", "at"] (defScope s_Database___getitem__) := ⟨rfl, rfl, rfl, by decide +kernel, rfl, by decide +kernel, by decide +kernel⟩
theorem sc_Database___contains__ : FnScope ["self", "x"] ["self", "x"] (defScope s_Database___contains__) := ⟨rfl, rfl, rfl, by decide +kernel, rfl, by decide +kernel, by decide +kernel⟩
theorem sc_law_seen : FnScope ["db", "record", "due", "told", "e"] ["db", "record", "due"] (defScope s_law_seen) := ⟨rfl, rfl, rfl, by decide +kernel, rfl, by decide +kernel, by decide +kernel⟩
theorem sc_law_odd : FnScope ["db", "thing", "told", "e"] ["db", "thing"] (defScope s_law_odd) := ⟨rfl, rfl, rfl, by decide +kernel, rfl, by decide +kernel, by decide +kernel⟩
theorem sc_law_deed : FnScope ["pool", "db", "values", "depth", "sort", "known", "record", "value"] ["pool", "db", "values", "depth"] (defScope s_law_deed) := ⟨rfl, rfl, rfl, by decide +kernel, rfl, by decide +kernel, by decide +kernel⟩
theorem sc_law : FnScope ["script", "first", "second", "values", "others", "depths", "at", "pool", "turn", "thing", "asked", "record"] ["script"] (defScope s_law) := ⟨rfl, rfl, rfl, by decide +kernel, rfl, by decide +kernel, by decide +kernel⟩
/-- the built-in names that no line of the text binds -/
structure Bn (mg : Str → Option Value) : Prop where
  int : mg "int" = none
  len : mg "len" = none
  abs : mg "abs" = none
  range : mg "range" = none
  max : mg "max" = none
  min : mg "min" = none
  isi : mg "isinstance" = none
  str : mg "str" = none
  all : mg "all" = none
  sorted : mg "sorted" = none
  bool : mg "bool" = none
end IC
namespace IC
open PySem L2 TL
section
variable {P : Program} {w : World} {K : PySem.W.Frag} {mg : Str → Option Value} {base : Heap}
theorem ok_draw {f : Addr} {fd : FuncData} (F : Fun K "_law_draw" "_law_draw" s_law_draw f fd) (T : Bn mg) : FnOk P w K mg base CX0 1 f fd ["pool", "many"] spDraw := by
  refine F.ok sc_law_draw (fun vs H Q E h => ?_) (fun cdv A outer s H vs Q E hr h => ?_)
  · obtain ⟨p, m, n, rfl, _⟩ := h
    rfl
  · obtain ⟨p, m, n, rfl, ⟨a, b, c, hp, a0, b0, b1, c0, c1⟩, hn, m0, m1, k⟩ := h
    refine ⟨_, (pss_cons (ps_if (pt_cmpR op_gt (pe_ix ix_list (pv 0) pe_int (fun _ _ => rfl)) pe_int (nomark _))
  (pss_cons (ps_set (i := 2) sc_law_draw.nd rfl (Or.inl rfl) (pe_op op_mod (pe_callTy call_int1 (by rfl) T.int (by decide +kernel) (pa_cons (pe_ix ix_list (pv 0) pe_int (fun _ _ => rfl)) pa_nil)) (pv 1)))
  (pss_cons (ps_asg (pe_op op_fdivW (pe_ix ix_list (pv 0) pe_int (fun _ _ => rfl)) (pv 1)) (pg_sub (pv 0) pe_int set_list))
  (pss_one (ps_ret (pv 2)))))
  pss_nil)
  (pss_cons (ps_set (i := 3) sc_law_draw.nd rfl (Or.inl rfl) (pe_op op_add (pe_ix ix_list (pv 0) pe_int (fun _ _ => rfl)) pe_int))
  (pss_cons (ps_asg (pv 3) (pg_sub (pv 0) pe_int set_list))
  (pss_cons (ps_set (i := 4) sc_law_draw.nd rfl (Or.inl rfl) (pe_op op_mod (pe_callTy call_int1 (by rfl) T.int (by decide +kernel) (pa_cons (pe_op op_add (pe_op op_pow (pe_op op_add (pe_ix ix_list (pv 0) pe_int (fun _ _ => rfl)) (pe_op op_mul pe_int (pv 3))) pe_int) (pe_op op_mul pe_int (pv 3))) pa_nil)) pe_int))
  (pss_cons (ps_set (i := 4) sc_law_draw.nd rfl (Or.inl rfl) (pe_op op_mod (pe_callTy call_int1 (by rfl) T.int (by decide +kernel) (pa_cons (pe_op op_pow (pe_op op_add (pv 4) (pe_op op_mul pe_int (pv 3))) pe_int) pa_nil)) pe_int))
  (pss_one (ps_ret (pe_op op_mod (pe_callTy call_int1 (by rfl) T.int (by decide +kernel) (pa_cons (pe_op op_fdiv (pv 4) pe_int) pa_nil)) (pv 1))))))))), ?_⟩
    have g0 : atI (pl a b c) 0 = some (.int a) := rfl
    have g1 : atI (pl a b c) 1 = some (.int b) := rfl
    have g2 : atI (pl a b c) 2 = some (.int c) := rfl
    refine ⟨_, rfl, p, pl a b c, 0, _, rfl, rfl, SqL.of hp, g0, a, 0, rfl, rfl, _, rfl, ?_⟩
    refine ite2 (fun hpos => ?_) (fun hneg => ?_)
    · refine ⟨_, rfl, p, pl a b c, 0, _, rfl, rfl, SqL.of hp, g0, .inl ⟨a, rfl, _, rfl, a, m, rfl, rfl, m0, ?_⟩⟩
      refine ⟨_, rfl, p, pl a b c, 0, _, rfl, rfl, SqL.of hp, g0, _, rfl, a, m, rfl, rfl, wide_div m0 m1 (by decide) (by decide), _, rfl, p, pl a b c, 0, 0, rfl, rfl, hp, rfl, ?_⟩
      refine ⟨_, rfl, ?_⟩
      refine k (a % m) _ (Int.emod_nonneg _ (by omega)) (Int.emod_lt_of_pos _ m0) ⟨a / m, b, c, upd_same, Int.ediv_nonneg a0 (by omega), b0, b1, c0, by omega⟩
    · refine ⟨_, rfl, p, pl a b c, 2, _, rfl, rfl, SqL.of hp, g2, c, 1, rfl, rfl, ?_⟩
      refine ⟨_, rfl, _, rfl, p, pl a b c, 2, 2, rfl, rfl, hp, rfl, ?_⟩
      have g1' : atI ((pl a b c).set 2 (.int (c + 1))) 1 = some (.int b) := rfl
      refine ⟨_, rfl, p, _, 1, _, rfl, rfl, SqL.of upd_same, g1', _, rfl, 48611, c + 1, rfl, rfl, .inl (by decide), b, _, rfl, rfl, _, 3, rfl, rfl, ⟨by decide, by decide, by omega⟩, _, rfl, 17, c + 1, rfl, rfl, .inl (by decide), _, _, rfl, rfl, .inl ⟨_, rfl, _, _, rfl, rfl, (by show (0 : Int) < 2305843009213693921; decide), ?_⟩⟩
      have hX : 0 ≤ ((b + 48611 * (c + 1)) ^ Int.toNat 3 + 17 * (c + 1)) % 2305843009213693921 ∧ ((b + 48611 * (c + 1)) ^ Int.toNat 3 + 17 * (c + 1)) % 2305843009213693921 < 2305843009213693921 :=
        ⟨Int.emod_nonneg _ (by decide), Int.emod_lt_of_pos _ (by decide)⟩
      dsimp only
      generalize ((b + 48611 * (c + 1)) ^ Int.toNat 3 + 17 * (c + 1)) % 2305843009213693921 = X at hX ⊢
      obtain ⟨x0, x1⟩ := hX
      refine ⟨_, rfl, _, rfl, 104729, c + 1, rfl, rfl, .inl (by decide), X, _, rfl, rfl, _, 3, rfl, rfl, ⟨by decide, by decide, by omega⟩, .inl ⟨_, rfl, _, _, rfl, rfl, (by show (0 : Int) < 1000000000000000003; decide), ?_⟩⟩
      have hY : 0 ≤ (X + 104729 * (c + 1)) ^ Int.toNat 3 % 1000000000000000003 := Int.emod_nonneg _ (by decide)
      refine ⟨_, rfl, _, _, rfl, rfl, ⟨by decide, by decide⟩, .inl ⟨_, rfl, _, rfl, _, m, rfl, rfl, m0, ?_⟩⟩
      refine k _ _ (Int.emod_nonneg _ (by omega)) (Int.emod_lt_of_pos _ m0) ⟨a, b, c + 1, upd_same, a0, b0, b1, by omega, by omega⟩
theorem ok_pool {f : Addr} {fd : FuncData} (F : Fun K "_law_pool" "_law_pool" s_law_pool f fd) (T : Bn mg) : FnOk P w K mg base CX0 1 f fd ["script", "at"] (spPool K) := by
  refine F.ok sc_law_pool (fun vs H Q E h => ?_) (fun cdv A outer s H vs Q E hr h => ?_)
  · obtain ⟨a, ns, j, rfl, _⟩ := h
    rfl
  · obtain ⟨a, ns, j, rfl, hS, hj, k⟩ := h
    refine ⟨_, (Evl.pss_cut (ps_set (i := 2) sc_law_pool.nd rfl (Or.inl rfl) (pe_ifExp (pt_cmpR op_lt (pv 1) (pe_callB call_len_seq (by rfl) T.len PySem.boot_len (pa_cons (pv 0) pa_nil)) (nomark _)) (pe_ix ix_list (pv 0) (pv 1) (fun _ _ => rfl)) pe_int))
  (pss_cons (ps_set (i := 3) sc_law_pool.nd rfl (Or.inl rfl) (pe_callB call_abs (by rfl) T.abs PyProof.Rows.boot_abs (pa_cons (pv 2) pa_nil)))
  (pss_cons (ps_set (i := 4) sc_law_pool.nd rfl (Or.inl rfl) (pe_op op_mod (pe_callTy call_int1 (by rfl) T.int (by decide +kernel) (pa_cons (pe_op op_add (pe_op op_add (pe_op op_mul (pv 3) pe_int) (pe_op op_mul pe_int (pv 1))) (pe_callTy call_int1 (by rfl) T.int (by decide +kernel) (pa_cons (pe_cmpR op_lt (pv 2) pe_int (nomark _)) pa_nil))) pa_nil)) pe_int))
  (pss_one (ps_ret (pe_lst (pa_cons (pe_ifExp (pt_cmpR op_ge (pv 3) (pe_op op_pow pe_int pe_int) (nomark _)) (pv 3) pe_int) (pa_cons (pe_op op_add (pv 4) pe_int) (pa_cons pe_int pa_nil))))))))), ?_⟩
    have hj' : (j : Int) < 64 := by omega
    refine ⟨fun σ H' => H' = H ∧ ∃ c : Int, σ = [some (.ref a), some (.int j), some (.int c), none, none], ?_, ?_⟩
    · refine ⟨_, rfl, _, rfl, a, _, rfl, .inl hS, _, _, rfl, rfl, _, rfl, ?_⟩
      refine ite2 (fun hlt => ?_) (fun _ => ⟨rfl, 0, rfl⟩)
      have hlt := of_decide_eq_true hlt
      have hl : j < ns.length := by
        rw [List.length_map] at hlt
        exact Int.ofNat_lt.mp hlt
      have hz : (ns.map V.int)[j]? = some (V.int ns[j]) := by
        rw [List.getElem?_map, List.getElem?_eq_getElem hl]
        rfl
      exact ⟨_, rfl, _, rfl, a, _, _, _, rfl, rfl, hS, atI_nat hz, rfl, _, rfl⟩
    · rintro σ H' ⟨rfl, c, rfl⟩
      refine ⟨_, rfl, c, rfl, ?_⟩
      refine ⟨_, rfl, _, 6, rfl, rfl, .inr (by decide), _, rfl, 2, j, rfl, rfl, .inl (by decide), _, _, rfl, rfl, _, rfl, c, 0, rfl, rfl, .inr ⟨_, rfl, _, _, rfl, rfl, .inl ⟨_, rfl, _, _, rfl, rfl, (by show (0 : Int) < 2305843009213693951; decide), ?_⟩⟩⟩
      refine ⟨_, rfl, 10, 18, rfl, rfl, ⟨by decide, by decide, by decide⟩, _, _, rfl, rfl, _, rfl, ?_⟩
      have h0 : (0 : Int) ≤ if c < 0 then -c else c := by split <;> omega
      have fin : ∀ x y : Int, 0 ≤ x → ∀ p, H' p = none → Q (.ref p) (upd H' p (.lst [.int x, .int (y % 2305843009213693951 + 12345), .int 0])) := fun x y hx p hp => by
        have e1 := Int.emod_nonneg y (show (2305843009213693951 : Int) ≠ 0 by decide)
        have e2 := Int.emod_lt_of_pos y (show (0 : Int) < 2305843009213693951 by decide)
        exact k p _ hp ⟨x, _, 0, upd_same, hx, by omega, by omega, by omega, by omega⟩
      refine ite2 (fun _ => ?_) (fun _ => ?_)
      · exact ⟨_, rfl, _, rfl, _, _, rfl, rfl, (by show 3 ≤ sizeLine; decide), fun p hp => fin _ _ h0 p hp⟩
      · exact ⟨_, rfl, _, _, rfl, rfl, (by show 3 ≤ sizeLine; decide), fun p hp => fin 0 _ (by decide) p hp⟩
end
end IC
namespace IC
open PySem L2 TL
section
variable {P : Program} {w : World} {K : PySem.W.Frag} {mg : Str → Option Value} {base : Heap}
theorem ok_word {f : Addr} {fd : FuncData} (F : Fun K "_law_word" "_law_word" s_law_word f fd) (T : Bn mg) (D_law_draw : Df P w K mg base 1 "_law_draw" ["pool", "many"] spDraw) : FnOk P w K mg base CX0 2 f fd ["pool"] spWord := by
  refine F.ok sc_law_word (fun vs H Q E h => ?_) (fun cdv A outer s H vs Q E hr h => ?_)
  · obtain ⟨p, n, rfl, _⟩ := h
    rfl
  · obtain ⟨p, n, rfl, hp, hn, k⟩ := h
    refine ⟨_, (pss_cons (ps_set (i := 1) sc_law_word.nd rfl (Or.inr rfl) pe_str)
  (pss_one (ps_ret (pe_join pe_str (pe_lc (own := [("k", 2)]) (g := gName 2) (tt := tYes) rfl sc_law_word.nd (pi_range1 rfl T.range (pa_cons (pe_op op_add pe_int (pe_df D_law_draw hr (by decide) rfl (pa_cons (pv 0) (pa_cons pe_int pa_nil)))) pa_nil)) (blkOk_by (N := ["pool", "letters", "k"]) (sc := defScope s_law_word) (by decide +kernel)) (fun _ _ _ _ _ => pg_name (i := 2) sc_law_word.nd rfl (Or.inl rfl)) (fun _ _ _ _ _ => pts_nil) (fun _ _ _ _ _ => (pe_ix ix_str (pv 1) (pe_df D_law_draw hr (by decide) rfl (pa_cons (pv 0) (pa_cons pe_int pa_nil))) (fun _ _ => rfl)))))))), ?_⟩
    refine ⟨⟨_, rfl⟩, _, rfl, p, 8, n, rfl, hp, by omega, by decide, by decide, fun d o d0 d8 hp1 => ⟨_, _, rfl, rfl, _, rfl, by omega, by omega, fun D hD => ?_⟩⟩
    obtain ⟨hpD, hDn⟩ := none_of hD
    refine lc_range (lo := 0) (n := (1 + d).toNat) (fun i H' => ∃ cs : List Nat, cs.length = i ∧ (∀ c ∈ cs, Lt c) ∧ H' D = some (.lst ((cs.map sgn).map V.str)) ∧ PoolAt H' p (n + 1 + i) ∧ Kp [p] H H')
      ⟨[], rfl, by simp, upd_same, (hp1.mv fun u e => by rw [upd_ne hpD]; exact e).up (by omega), (Kp.at_ (by simp)).trans (Kp.new hD)⟩ ?_ ?_
    · rintro i H' hi ⟨cs, hl, hc, hcD, hp2, kp⟩
      refine ⟨rfl, ?_⟩
      refine ⟨_, rfl, _, rfl, p, 26, n + 1 + i, rfl, hp2, by omega, by decide, by decide, fun e o2 e0 e1 hp3 => ?_⟩
      obtain ⟨c, hat, hL⟩ := abc_at e e0 e1
      refine ⟨_, e, c, rfl, rfl, by decide +kernel, hat, ?_⟩
      refine ⟨_, (by rw [upd_ne hpD.symm]; exact hcD), small1000 (by rw [List.length_map, List.length_map]; omega), cs ++ [c], by simp [hl], ?_, ?_, ?_, (kp.mutAt (by simp)).mut hDn⟩
      · intro x hx
        rcases List.mem_append.mp hx with hx | hx
        · exact hc x hx
        · rw [List.mem_singleton.mp hx]; exact hL
      · rw [upd_same, List.map_append, List.map_append]
        rfl
      · exact (hp3.mv fun u q => by rw [upd_ne hpD]; exact q).up (by omega)
    · rintro H' ⟨cs, hl, hc, hcD, hp2, kp⟩
      refine ⟨_, D, cs.map sgn, rfl, rfl, .inl (SqL.of hcD), ?_, ?_⟩
      · have e : (List.map (fun z : Str => z.length) (cs.map sgn)).sum = cs.length := by
          rw [List.map_map]
          clear hl hc hcD hp2 kp
          induction cs with
          | nil => rfl
          | cons c r ih => rw [List.map_cons, List.sum_cons, ih, List.length_cons]; show 1 + r.length = r.length + 1; omega
        rw [e, List.length_map, hl]
        show (1 + d).toNat + (1 + d).toNat * 0 ≤ 16777216
        omega
      · have et := tl_joined cs
        refine k _ H' ⟨?_, ?_, ?_⟩ (hp2.up (by omega)) kp
        · rw [et, hl]; omega
        · rw [et, hl]; omega
        · rw [et]; exact hc
end
end IC
namespace IC
open PySem L2 TL
section
variable {P : Program} {w : World} {K : PySem.W.Frag} {mg : Str → Option Value} {base : Heap}
theorem ok_is_mode {f C p t : Addr} {mc : Value} {fd : FuncData} (F : Fun K "is_mode" "Mode.is_mode" s_Mode_is_mode f fd) (T : Bn mg) (M : ModeTxt K mg C p f t mc) : FnOk P w K mg base CX0 1 f fd ["thing"] (spIsMode K) := by
  refine F.ok sc_Mode_is_mode (fun vs H Q E h => ?_) (fun cdv A outer s H vs Q E hr h => ?_)
  · obtain ⟨v, rfl, _⟩ := h
    rfl
  · obtain ⟨v, rfl, h⟩ := h
    refine ⟨_, (pss_one (ps_ret (pe_and (pe_callB call_isi (by rfl) T.isi PyProof.Rows.boot_isinstance (pa_cons (pv 0) (pa_cons (pe_bltn (v := .ty "str") (by rfl) T.str (by decide +kernel) rfl) pa_nil))) (pe_one (pe_cmpR op_in_seq (pv 0) (ClX.pe_cval (pe_glob (v := .ref _) rfl M.mo rfl)) (by rfl)))))), ?_⟩
    rcases h with ⟨z, rfl, k⟩ | ⟨⟨T', ty, kb⟩, k⟩
    · refine ⟨_, rfl, .str z, .ty "str", .type "str", .type "str", true, rfl, .ty "str", .base (.str z), kit_ty (by decide +kernel), true, rfl, ?_⟩
      exact ⟨_, rfl, C, mc, _, _, rfl, M.rd, M.all, t, modesV, rfl, .inr (M.seq H), rfl, modes_flat, k⟩
    · refine ⟨_, rfl, v, .ty "str", .type T', .type "str", false, rfl, .ty "str", ty, kit_ty kb, false, rfl, ?_⟩
      exact k
end
end IC
namespace IC
open PySem L2 TL
section
variable {P : Program} {w : World} {K : PySem.W.Frag} {mg : Str → Option Value} {base : Heap}
theorem ok_is_word {f : Addr} {fd : FuncData} (F : Fun K "is_word" "is_word" s_is_word f fd) (T : Bn mg) : FnOk P w K mg base CX0 1 f fd ["thing"] (spIsWord K) := by
  refine F.ok sc_is_word (fun vs H Q E h => ?_) (fun cdv A outer s H vs Q E hr h => ?_)
  · obtain ⟨v, rfl, _⟩ := h
    rfl
  · obtain ⟨v, rfl, h⟩ := h
    refine ⟨_, (pss_cons (ps_if (PW.pt (pw_or (pt_not (pt_val (pe_callB call_isi (by rfl) T.isi PyProof.Rows.boot_isinstance (pa_cons (pv 0) (pa_cons (pe_bltn (v := .ty "str") (by rfl) T.str (by decide +kernel) rfl) pa_nil))))) (pw_or1 (pt_not (pt_chain op_le op_le pe_int (pe_callB call_len_str (by rfl) T.len PySem.boot_len (pa_cons (pv 0) pa_nil)) pe_int)))))
  (pss_one (ps_ret pe_bl))
  pss_nil)
  (pss_one (ps_ret (pe_callB (cr_all rfl) (by rfl) T.all (by decide +kernel) (pa_cons (pe_lc (own := [("letter", 1)]) (g := gName 1) (tt := tYes) rfl sc_is_word.nd (pi_str (pv 0)) (blkOk_by (N := ["thing", "letter"]) (sc := defScope s_is_word) (by decide +kernel)) (fun _ _ _ _ _ => pg_name (i := 1) sc_is_word.nd rfl (Or.inl rfl)) (fun _ _ _ _ _ => pts_nil) (fun _ _ _ _ _ => (pe_chain op_le_str op_le_str pe_str (pv 1) pe_str))) pa_nil))))), ?_⟩
    rcases h with ⟨z, rfl, hl, k⟩ | ⟨⟨T', ty, kb⟩, k⟩
    · refine ⟨_, rfl, .str z, .ty "str", .type "str", .type "str", true, rfl, .ty "str", .base (.str z), kit_ty (by decide +kernel), true, rfl, ?_⟩
      refine ⟨_, rfl, z, rfl, len_le hl, 1, z.length, rfl, rfl, _, rfl, ?_⟩
      refine ite2 (fun h1 => ?_) (fun h1 => ?_)
      · have h1 := of_decide_eq_true h1
        refine ⟨_, _, rfl, rfl, _, rfl, ?_⟩
        cases hd : decide ((z.length : Int) ≤ 8) with
        | true =>
          refine ⟨_, rfl, z, rfl, fun D hD => ?_⟩
          have hz : z.cps.size = (tl z).length := by simp [tl]
          refine lc_it (walk_str (z := z)) (fun i H' => H' D = some (.lst (((tl z).take i).map fun c => V.bl (lB c))) ∧ Same H H') ⟨upd_same, Same.new hD⟩ (fun _ _ _ _ => trivial) ?_ ?_
          · rintro i x _ H' hi ⟨hcD, sm⟩ ⟨rfl, c, hc, rfl⟩
            have hc' : (tl z)[i]? = some c := by simpa [tl] using hc
            have fin : ∃ acc, H' D = some (.lst acc) ∧ acc.length < sizeLine ∧ upd H' D (.lst (acc ++ [V.bl (lB c)])) D = some (.lst (((tl z).take (i + 1)).map fun c => V.bl (lB c))) ∧ Same H (upd H' D (.lst (acc ++ [V.bl (lB c)]))) := by
              refine ⟨_, hcD, small1000 (by rw [List.length_map, List.length_take]; omega), ?_, ?_⟩
              · rw [upd_same, List.take_add_one, hc', List.map_append]
                rfl
              · exact fun b o e => by rw [upd_ne (ne_of_none e hD)]; exact sm b o e
            refine ⟨rfl, ?_⟩
            refine ⟨_, rfl, _, _, rfl, rfl, _, rfl, ?_⟩
            rw [lt_a c]
            unfold lB at fin
            cases h97 : decide (97 ≤ c) with
            | true =>
              rw [h97] at fin
              refine ⟨_, _, rfl, rfl, ?_⟩
              rw [z_lt c, Bool.not_not]
              exact fin
            | false =>
              rw [h97] at fin
              exact fin
          · rintro H' ⟨hcD, sm⟩
            have e : wB z = (((tl z).map lB).all id) := by
              have h8 := of_decide_eq_true hd
              rw [len_tl] at h1 h8
              unfold wB
              rw [decide_eq_true (by omega), decide_eq_true (by omega), Bool.true_and, Bool.true_and, List.all_map]
              rfl
            refine ⟨D, (tl z).map lB, rfl, SqL.of ?_, ?_⟩
            · rw [hcD, hz, List.take_length, List.map_map]
              rfl
            · have q := k H' sm
              rw [e] at q
              exact q
        | false =>
          have e : wB z = false := by
            have q := of_decide_eq_false hd
            rw [len_tl] at q
            unfold wB
            rw [decide_eq_false (p := (tl z).length ≤ 8) (by omega), Bool.false_and, Bool.and_false]
          have q := k H (Same.refl H)
          rw [e] at q
          exact q
      · rw [Bool.not_eq_true] at h1
        have e : wB z = false := by
          have q := of_decide_eq_false h1
          rw [len_tl] at q
          unfold wB
          rw [decide_eq_false (by omega)]
          rfl
        have q := k H (Same.refl H)
        rw [e] at q
        exact ⟨_, rfl, q⟩
    · refine ⟨_, rfl, v, .ty "str", .type T', .type "str", false, rfl, .ty "str", ty, kit_ty kb, false, rfl, ?_⟩
      exact k H (Same.refl H)
end
end IC
namespace IC
open PySem L2 TL
structure WTxt (K : PySem.W.Frag) (c : Cs) (CW : Addr) : Prop where
  cW : Cls K CW
  nR : NoAttr K CW "record"
  nV : NoAttr K CW "value"
  nH : NoAttr K CW "holder"
  nF : NoAttr K CW "fate"
  mT : PySem.W.mroIn K c.T (.type "object") = some true
  sT : PySem.W.findIn K (.ref c.T) "__eq__" = some (some (.builtin "object.__eq__"))
section
variable {P : Program} {w : World} {K : PySem.W.Frag} {mg : Str → Option Value} {base : Heap} {c : Cs} {CW : Addr}
theorem ok_wr_init {f : Addr} {fd : FuncData} (F : Fun K "__init__" "Write.__init__" s_Write___init__ f fd) (B : WTxt K c CW) : FnOk P w K mg base CX0 1 f fd ["self", "record", "value", "holder"] (spWr CW) := by
  refine F.ok sc_Write___init__ (fun vs H Q E h => ?_) (fun cdv A outer s H vs Q E hr h => ?_)
  · obtain ⟨a, dx, r, v, h, rfl, _⟩ := h
    rfl
  · obtain ⟨a, dx, r, v, hv, rfl, ha, k⟩ := h
    refine ⟨_, (pss_cons (ps_fld (pv 0) (pv 1) rfl)
  (pss_cons (ps_fld (pv 0) (pv 2) rfl)
  (pss_cons (ps_fld (pv 0) (pv 3) rfl)
  (pss_one (ps_fld (pv 0) pe_str rfl))))), ?_⟩
    refine ⟨_, rfl, _, rfl, a, CW, dx, [], rfl, ha, B.cW, B.nR, (by show 0 < 1000; decide), ?_⟩
    refine ⟨_, rfl, _, rfl, a, CW, dx, _, rfl, upd_same, B.cW, B.nV, (by show 1 < 1000; decide), ?_⟩
    refine ⟨_, rfl, _, rfl, a, CW, dx, _, rfl, upd_same, B.cW, B.nH, (by show 2 < 1000; decide), ?_⟩
    refine ⟨_, rfl, a, CW, dx, _, rfl, upd_same, B.cW, B.nF, (by show 3 < 1000; decide), ?_⟩
    rw [upd_upd, upd_upd, upd_upd]
    exact k
theorem ok_tr3_init {f : Addr} {fd : FuncData} (F : Fun K "__init__" "Transaction.__init__" s_Transaction___init__ f fd) (B : DbTxt K mg c) : FnOk P w K mg base CX0 1 f fd ["self"] (spTrInit c) := by
  refine F.ok sc_Transaction___init__ (fun vs H Q E h => ?_) (fun cdv A outer s H vs Q E hr h => ?_)
  · obtain ⟨t, dx, rfl, _⟩ := h
    rfl
  · obtain ⟨t, dx, rfl, ht, k⟩ := h
    refine ⟨_, (pss_cons (ps_fld (pv 0) (pe_lst pa_nil) rfl)
  (pss_cons (ps_fld (pv 0) (pe_lst (pa_cons pe_int pa_nil)) rfl)
  (pss_one (ps_fld (pv 0) pe_non rfl)))), ?_⟩
    refine ⟨Nat.zero_le _, fun o no => ?_⟩
    have to : t ≠ o := ne_of_none ht no
    refine ⟨_, rfl, t, c.T, dx, [], rfl, (by rw [upd_ne to]; exact ht), B.cT, B.nO, (by show 0 < 1000; decide), ?_⟩
    refine ⟨(by show 1 ≤ sizeLine; decide), fun e ne => ?_⟩
    have te : t ≠ e := ne_of_none upd_same ne
    have e2 := none_of (none_of ne).2
    refine ⟨_, rfl, t, c.T, dx, [("own", V.ref o)], rfl, (by rw [upd_ne te]; exact upd_same), B.cT, B.nS, (by show 1 < 1000; decide), ?_⟩
    refine ⟨_, rfl, t, c.T, dx, [("own", V.ref o), ("starts", V.ref e)], rfl, upd_same, B.cT, B.n1, (by show 2 < 1000; decide), ?_⟩
    refine k _ o e ?_ no e2.2 ⟨upd_same, ?_, ?_, e2.1⟩
    · exact ((((Kp.new no).mutAt (List.mem_singleton.mpr rfl)).newAt ne).mutAt (List.mem_singleton.mpr rfl)).mutAt (List.mem_singleton.mpr rfl)
    · rw [upd_ne to.symm, upd_ne to.symm, upd_ne e2.1, upd_ne to.symm, upd_same]
    · rw [upd_ne te.symm, upd_ne te.symm, upd_same]
      rfl
theorem ok_db3_init {f : Addr} {fd : FuncData} (F : Fun K "__init__" "Database.__init__" s_Database___init__ f fd) (B : DbTxt K mg c) : FnOk P w K mg base CX0 1 f fd ["self"] (spDb3 c CW) := by
  refine F.ok sc_Database___init__ (fun vs H Q E h => ?_) (fun cdv A outer s H vs Q E hr h => ?_)
  · obtain ⟨d, dx, rfl, _⟩ := h
    rfl
  · obtain ⟨d, dx, rfl, hd, k⟩ := h
    refine ⟨_, (pss_cons (ps_fld (pv 0) pe_non rfl)
  (pss_cons (ps_fld (pv 0) (pe_lst pa_nil) rfl)
  (pss_cons (ps_fld (pv 0) pe_int rfl)
  (pss_cons (ps_fld (pv 0) (pe_lst pa_nil) rfl)
  (pss_cons (ps_fld (pv 0) pe_dnewK rfl)
  (pss_one (ps_fld (pv 0) pe_dnewK rfl))))))), ?_⟩
    refine ⟨_, rfl, d, c.D, dx, [], rfl, hd, B.cD, B.nP, (by show 0 < 1000; decide), ?_⟩
    refine ⟨Nat.zero_le _, fun b nb => ?_⟩
    have db : d ≠ b := ne_of_none upd_same nb
    refine ⟨_, rfl, d, c.D, dx, _, rfl, (by rw [upd_ne db]; exact upd_same), B.cD, B.nB, (by show 1 < 1000; decide), ?_⟩
    refine ⟨_, rfl, d, c.D, dx, _, rfl, upd_same, B.cD, B.nF, (by show 2 < 1000; decide), ?_⟩
    refine ⟨Nat.zero_le _, fun m nm => ?_⟩
    have dm : d ≠ m := ne_of_none upd_same nm
    have m2 := none_of (none_of (none_of nm).2).2
    refine ⟨_, rfl, d, c.D, dx, _, rfl, (by rw [upd_ne dm]; exact upd_same), B.cD, B.nM, (by show 3 < 1000; decide), ?_⟩
    intro h nh
    have dh : d ≠ h := ne_of_none upd_same nh
    have h2 := none_of (none_of nh).2
    have h3 := none_of (none_of h2.2).2
    have h4 := none_of h3.2
    refine ⟨_, rfl, d, c.D, dx, _, rfl, (by rw [upd_ne dh]; exact upd_same), B.cD, B.nH, (by show 4 < 1000; decide), ?_⟩
    intro k' nk
    have dk : d ≠ k' := ne_of_none upd_same nk
    have k2 := none_of (none_of nk).2
    have k3 := none_of (none_of k2.2).2
    have k4 := none_of (none_of k3.2).2
    have k5 := none_of k4.2
    refine ⟨_, rfl, d, c.D, dx, _, rfl, (by rw [upd_ne dk]; exact upd_same), B.cD, B.nK, (by show 5 < 1000; decide), ?_⟩
    have i : d ∈ [d] := List.mem_singleton.mpr rfl
    refine k _ (fun x => x = d ∨ x = b ∨ x = m ∨ x = h ∨ x = k') ⟨d, ⟨dx, b, m, h, k'⟩, [], [], [], none⟩ ?_ ?_ rfl rfl rfl rfl rfl ⟨⟨upd_same, ?_, ?_, ?_, ?_, nofun, m2.1, k2.1, .inl rfl, .inr (.inl rfl), .inr (.inr (.inl rfl)), .inr (.inr (.inr (.inl rfl))), .inr (.inr (.inr (.inr rfl))), nofun⟩, nofun, nofun⟩
    · exact (((((((((Kp.at_ i).newAt nb).mutAt i).mutAt i).newAt nm).mutAt i).newAt nh).mutAt i).newAt nk).mutAt i
    · rintro x (q | q | q | q | q)
      · exact .inl q
      · exact .inr (q ▸ (none_of nb).2)
      · exact .inr (q ▸ (none_of m2.2).2)
      · exact .inr (q ▸ (none_of h4.2).2)
      · exact .inr (q ▸ (none_of k5.2).2)
    · rw [upd_ne db.symm, upd_ne k5.1, upd_ne db.symm, upd_ne h4.1, upd_ne db.symm, upd_ne m2.1, upd_ne db.symm, upd_ne db.symm, upd_same]
      rfl
    · rw [upd_ne dm.symm, upd_ne k3.1, upd_ne dm.symm, upd_ne h2.1, upd_ne dm.symm, upd_same]
    · rw [upd_ne dh.symm, upd_ne k2.1, upd_ne dh.symm, upd_same]
      rfl
    · rw [upd_ne dk.symm, upd_same]
      rfl
theorem ok_reason3 {f : Addr} {fd : FuncData} (F : Fun K "reason" "Database.reason" s_Database_reason f fd) (B : DbTxt K mg c) : FnOk P w K mg base CX0 1 f fd ["self"] (spLook c CW 0 fun _ _ v => v = .non) := by
  refine F.ok sc_Database_reason (fun vs H Q E h => ?_) (fun cdv A outer s H vs Q E hr h => ?_)
  · obtain ⟨S, F, us, v, rfl, hu, _⟩ := h
    simpa using hu
  · obtain ⟨S, F, us, v, rfl, hu, hd, hz, rfl, k⟩ := h
    obtain rfl := List.eq_nil_of_length_eq_zero hu
    refine ⟨_, (pss_cons (ps_if (pt_cmpR op_isN (pe_fld (pv 0) rfl) pe_non (nomark _))
  (pss_one (ps_ret pe_non))
  pss_nil)
  (pss_one (ps_ret (pe_fld (pe_fld (pv 0) rfl) rfl)))), ?_⟩
    have hdb := hd.db
    have htr := hd.tr
    rcases S with ⟨d, p, made, kept, pre, pr⟩
    refine ⟨_, rfl, d, c.D, p.dx, _, pvO pr, rfl, hdb.hd, B.cD, B.nP, rfl, rfl, _, rfl, ?_⟩
    cases pr with
    | none => exact k
    | some P =>
      exact ⟨_, rfl, d, c.D, p.dx, _, _, rfl, hdb.hd, B.cD, B.nP, rfl, P.t, c.T, P.q.dx, _, _, rfl, (htr P rfl).ht, B.cT, B.n1, rfl, k⟩
theorem ok_is_doomed3 {f : Addr} {fd : FuncData} (F : Fun K "is_doomed" "Database.is_doomed" s_Database_is_doomed f fd) (B : DbTxt K mg c) (P_reason : PDf P w K mg base 1 c.D "reason" (spLook c CW 0 fun _ _ v => v = .non)) :
    FnOk P w K mg base CX0 3 f fd ["self"] (spLook c CW 0 fun _ _ v => v = .bl false) := by
  refine F.ok sc_Database_is_doomed (fun vs H Q E h => ?_) (fun cdv A outer s H vs Q E hr h => ?_)
  · obtain ⟨S, F, us, v, rfl, hu, _⟩ := h
    simpa using hu
  · obtain ⟨S, F, us, v, rfl, hu, hd, hz, rfl, k⟩ := h
    obtain rfl := List.eq_nil_of_length_eq_zero hu
    refine ⟨_, (pss_one (ps_ret (pe_cmpR op_notN (pe_pd P_reason B.cD hr (by decide) (pv 0)) pe_non (nomark _)))), ?_⟩
    exact ⟨_, rfl, S.d, S.p.dx, _, rfl, hd.db.hd, S, F, [], _, rfl, rfl, hd, hz, rfl, rfl, k⟩
/-- what the held dict tells of a record -/
theorem held_no {H : Hp} {F : Addr → Prop} {S : S3} (h : Db3 c CW H F S) {r : Str} (e : ((heO S.pr).find? fun z => decide (z.1 = r)) = none) : ofR (owO S.pr) r = [] := by
  rcases S with ⟨d, p, made, kept, pre, pr⟩
  cases pr with
  | none => rfl
  | some P =>
    refine List.filter_eq_nil_iff.mpr fun x hx q => ?_
    rcases (h.tr P rfl).all x hx with ⟨z, hz, e2⟩
    have := List.find?_eq_none.mp e z hz
    exact this (decide_eq_true (e2.trans (of_decide_eq_true q)))
theorem held_at {H : Hp} {F : Addr → Prop} {S : S3} {P : P3} (h : Db3 c CW H F S) (hp : S.pr = some P) {r : Str} {z : Str × Addr} (e : ((heO S.pr).find? fun z => decide (z.1 = r)) = some z) :
    z ∈ P.held ∧ z.1 = r ∧ H z.2 = some (.lst (refs (ofR P.own r))) ∧ ofR P.own r ≠ [] := by
  rw [hp] at e
  have m : z ∈ P.held := List.mem_of_find?_eq_some e
  have q : z.1 = r := of_decide_eq_true (List.find?_some (p := fun z : Str × Addr => decide (z.1 = r)) e)
  have g := (h.tr P hp).hl z m
  rw [q] at g
  exact ⟨m, q, g.1, g.2⟩
theorem ok_is_holder3 {f : Addr} {fd : FuncData} (F : Fun K "_is_holder" "Database._is_holder" s_Database__is_holder f fd) (B : DbTxt K mg c) (W : WTxt K c CW) : FnOk P w K mg base CX0 1 f fd ["self", "record"] (spLook c CW 1 fun S us v => ∃ r, us = [.str r] ∧ ofR (owO S.pr) r ≠ [] ∧ v = .bl true) := by
  refine F.ok sc_Database__is_holder (fun vs H Q E h => ?_) (fun cdv A outer s H vs Q E hr h => ?_)
  · obtain ⟨S, F, us, v, rfl, hu, _⟩ := h
    simpa using hu
  · obtain ⟨S, F, us, v, rfl, hu, hd, hz, ⟨r, rfl, hne, rfl⟩, k⟩ := h
    have hu := hu_of hr
    have mT := W.mT
    have sT := W.sT
    refine ⟨_, (pss_one (ps_ret (pe_cmpR (op_eqSelf mT sT (Nat.lt_of_succ_lt hu)) (pe_fld (pe_ix ix_list (pe_dget hu (pe_fld (pv 0) rfl) (pv 1) (fun _ _ => rfl)) pe_int (fun _ _ => rfl)) rfl) (pe_fld (pv 0) rfl) (nomark _)))), ?_⟩
    have hdb := hd.db
    cases hp : S.pr with
    | none =>
      rw [hp] at hne
      exact absurd rfl hne
    | some P =>
      cases ef : (heO S.pr).find? fun z => decide (z.1 = r) with
      | none => exact absurd (held_no hd ef) hne
      | some z =>
        obtain ⟨zm, zr, hl, hne2⟩ := held_at hd hp ef
        have tr := hd.tr P hp
        obtain ⟨x, xs, ex⟩ := List.exists_cons_of_ne_nil hne2
        have xm : x ∈ P.own := by
          have : x ∈ ofR P.own r := by rw [ex]; exact List.mem_cons_self
          exact (List.mem_filter.mp this).1
        obtain ⟨dx, ft, ew⟩ := tr.hw x xm
        have g : DGet H S.p.h (.str r) (some (.ref z.2)) := by
          have q := DGet.k (k := .inr r) hdb.hh
          rw [valV_hd3, ef] at q
          exact q
        rw [hp] at hdb
        refine ⟨_, rfl, S.d, c.D, S.p.dx, _, _, rfl, hdb.hd, B.cD, B.nH, rfl, _, rfl, S.p.h, .ref z.2, rfl, g, ?_⟩
        refine ⟨z.2, _, 0, .ref x.a, rfl, rfl, SqL.of hl, atI_nat (j := 0) (by rw [ex]; rfl), ?_⟩
        refine ⟨x.a, CW, dx, _, .ref P.t, rfl, ew, W.cW, W.nH, rfl, _, rfl, S.d, c.D, S.p.dx, _, _, rfl, hdb.hd, B.cD, B.nP, rfl, ?_⟩
        exact ⟨P.t, P.q.dx, _, rfl, rfl, tr.ht, k⟩
theorem held_get {H : Hp} {F : Addr → Prop} {S : S3} (h : Db3 c CW H F S) (r : Str) : DGet H S.p.h (.str r) (((heO S.pr).find? fun z => decide (z.1 = r)).map fun z => .ref z.2) := by
  have q := DGet.k (k := .inr r) h.db.hh
  rw [valV_hd3] at q
  exact q
theorem held_bool {H : Hp} {F : Addr → Prop} {S : S3} (h : Db3 c CW H F S) (r : Str) : (((heO S.pr).find? fun z => decide (z.1 = r)).map fun z => V.ref z.2).isSome = decide (ofR (owO S.pr) r ≠ []) := by
  cases ef : (heO S.pr).find? fun z => decide (z.1 = r) with
  | none => rw [held_no h ef]; rfl
  | some z =>
    cases hp : S.pr with
    | none => rw [hp] at ef; cases ef
    | some P => exact (decide_eq_true (held_at h hp ef).2.2.2).symm
theorem ok_holds3 {f : Addr} {fd : FuncData} (F : Fun K "holds" "Database.holds" s_Database_holds f fd) (B : DbTxt K mg c) (M_is_holder : MDf P w K mg base CX0 1 c.D "_is_holder" ["self", "record"] [] (spLook c CW 1 fun S us v => ∃ r, us = [.str r] ∧ ofR (owO S.pr) r ≠ [] ∧ v = .bl true)) :
    FnOk P w K mg base CX0 2 f fd ["self", "record"] (spLook c CW 1 fun S us v => ∃ r, us = [.str r] ∧ v = .bl (decide (ofR (owO S.pr) r ≠ []))) := by
  refine F.ok sc_Database_holds (fun vs H Q E h => ?_) (fun cdv A outer s H vs Q E hr h => ?_)
  · obtain ⟨S, F, us, v, rfl, hu, _⟩ := h
    simpa using hu
  · obtain ⟨S, F, us, v, rfl, hu, hd, hz, ⟨r, rfl, rfl⟩, k⟩ := h
    have hu := hu_of hr
    refine ⟨_, (pss_one (ps_ret (pe_and (pe_cmp (pc_din hu (pv 1) (pe_fld (pv 0) rfl)) rfl) (pe_one (pe_md M_is_holder B.cD hr (by decide) (pv 0) (pa_cons (pv 1) pa_nil)))))), ?_⟩
    have hdb := hd.db
    refine ⟨_, rfl, _, rfl, S.d, c.D, S.p.dx, _, _, rfl, hdb.hd, B.cD, B.nH, rfl, S.p.h, _, rfl, held_get hd r, _, rfl, ?_⟩
    rw [held_bool hd r]
    by_cases e : ofR (owO S.pr) r = []
    · rw [decide_eq_false (not_not_intro e)] at k ⊢
      exact iteF k
    · rw [decide_eq_true e] at k ⊢
      exact iteT ⟨_, rfl, S.d, S.p.dx, _, rfl, hdb.hd, rfl, _, rfl, S, F, [.str r], _, rfl, rfl, hd, hz, ⟨r, rfl, e, rfl⟩, k⟩
theorem ok_has_suspended3 {f : Addr} {fd : FuncData} (F : Fun K "has_suspended" "Database.has_suspended" s_Database_has_suspended f fd) (B : DbTxt K mg c) (M_is_holder : MDf P w K mg base CX0 1 c.D "_is_holder" ["self", "record"] [] (spLook c CW 1 fun S us v => ∃ r, us = [.str r] ∧ ofR (owO S.pr) r ≠ [] ∧ v = .bl true)) :
    FnOk P w K mg base CX0 2 f fd ["self", "record"] (spLook c CW 1 fun S us v => ∃ r, us = [.str r] ∧ v = .bl false) := by
  refine F.ok sc_Database_has_suspended (fun vs H Q E h => ?_) (fun cdv A outer s H vs Q E hr h => ?_)
  · obtain ⟨S, F, us, v, rfl, hu, _⟩ := h
    simpa using hu
  · obtain ⟨S, F, us, v, rfl, hu, hd, hz, ⟨r, rfl, rfl⟩, k⟩ := h
    have hu := hu_of hr
    refine ⟨_, (pss_one (ps_ret (pe_and (pe_cmp (pc_din hu (pv 1) (pe_fld (pv 0) rfl)) rfl) (pe_one (pe_not (pe_md M_is_holder B.cD hr (by decide) (pv 0) (pa_cons (pv 1) pa_nil))))))), ?_⟩
    have hdb := hd.db
    refine ⟨_, rfl, _, rfl, S.d, c.D, S.p.dx, _, _, rfl, hdb.hd, B.cD, B.nH, rfl, S.p.h, _, rfl, held_get hd r, _, rfl, ?_⟩
    rw [held_bool hd r]
    by_cases e : ofR (owO S.pr) r = []
    · rw [decide_eq_false (not_not_intro e)]
      exact iteF k
    · rw [decide_eq_true e]
      exact iteT ⟨_, rfl, S.d, S.p.dx, _, rfl, hdb.hd, rfl, _, rfl, S, F, [.str r], _, rfl, rfl, hd, hz, ⟨r, rfl, e, rfl⟩, _, rfl, k⟩
def seeV (S : S3) (r : Str) : V := match S.see r with
  | none => .non
  | some x => .ref x.a
theorem ok_seen3 {f : Addr} {fd : FuncData} (F : Fun K "_seen" "Database._seen" s_Database__seen f fd) (B : DbTxt K mg c) (M_holds : MDf P w K mg base CX0 2 c.D "holds" ["self", "record"] [] (spLook c CW 1 fun S us v => ∃ r, us = [.str r] ∧ v = .bl (decide (ofR (owO S.pr) r ≠ [])))) :
    FnOk P w K mg base CX0 3 f fd ["self", "record"] (spLook c CW 1 fun S us v => ∃ r, us = [.str r] ∧ v = seeV S r) := by
  refine F.ok sc_Database__seen (fun vs H Q E h => ?_) (fun cdv A outer s H vs Q E hr h => ?_)
  · obtain ⟨S, F, us, v, rfl, hu, _⟩ := h
    simpa using hu
  · obtain ⟨S, F, us, v, rfl, hu, hd, hz, ⟨r, rfl, rfl⟩, k⟩ := h
    have hu := hu_of hr
    refine ⟨_, (pss_cons (ps_if (pt_val (pe_md M_holds B.cD hr (by decide) (pv 0) (pa_cons (pv 1) pa_nil)))
  (pss_one (ps_ret (pe_ix ix_list (pe_dget hu (pe_fld (pv 0) rfl) (pv 1) (fun _ _ => rfl)) (pe_un un_neg pe_int) (fun _ _ => rfl))))
  pss_nil)
  (pss_one (ps_ret (pe_dget1 (hu_of hr) (pe_fld (pv 0) rfl) (pv 1) ⟨by rfl, by rfl, by rfl, by rfl⟩)))), ?_⟩
    have hdb := hd.db
    refine ⟨_, rfl, S.d, S.p.dx, _, rfl, hdb.hd, rfl, _, rfl, S, F, [.str r], _, rfl, rfl, hd, hz, ⟨r, rfl, rfl⟩, _, rfl, ?_⟩
    by_cases e : ofR (owO S.pr) r = []
    · rw [decide_eq_false (not_not_intro e)]
      refine iteF ⟨_, rfl, S.d, c.D, S.p.dx, _, _, rfl, hdb.hd, B.cD, B.nK, rfl, S.p.k, rfl, .inl ⟨_, .inl hdb.hk⟩, _, rfl, _, DGet.k (k := .inr r) hdb.hk, ?_⟩
      rw [valV_kd]
      have : seeV S r = (((findW S.kept r).map fun x => V.ref x.a).getD .non) := by
        unfold seeV S3.see
        rw [e]
        show (match findW S.kept r with | none => V.non | some x => V.ref x.a) = _
        cases findW S.kept r <;> rfl
      rw [this] at k
      exact k
    · rw [decide_eq_true e]
      refine iteT ?_
      cases hp : S.pr with
      | none =>
        rw [hp] at e
        exact absurd rfl e
      | some P =>
        cases ef : (heO S.pr).find? fun z => decide (z.1 = r) with
        | none => exact absurd (held_no hd ef) e
        | some z =>
          obtain ⟨zm, zr, hl, hne2⟩ := held_at hd hp ef
          have g := held_get hd r
          rw [ef] at g
          obtain ⟨xs, x, ex⟩ : ∃ xs x, ofR P.own r = xs ++ [x] := ⟨_, _, (List.dropLast_concat_getLast hne2).symm⟩
          refine ⟨_, rfl, S.d, c.D, S.p.dx, _, _, rfl, hdb.hd, B.cD, B.nH, rfl, _, rfl, S.p.h, .ref z.2, rfl, g, 1, rfl, z.2, _, -1, .ref x.a, rfl, rfl, SqL.of hl, ?_, ?_⟩
          · rw [ex]
            unfold refs
            rw [List.map_append]
            exact atI_last _ _
          · have : seeV S r = .ref x.a := by
              unfold seeV S3.see
              rw [hp]
              show (match ((ofR P.own r).getLast?).or (findW S.kept r) with | none => V.non | some x => V.ref x.a) = _
              rw [ex, List.getLast?_concat]
              rfl
            rw [this] at k
            exact k
end
end IC
namespace IC
open PySem L2 TL
section
variable {P : Program} {w : World} {K : PySem.W.Frag} {mg : Str → Option Value} {base : Heap} {c : Cs} {CW : Addr}
theorem ok_free3 {f C p g t : Addr} {mc : Value} {fd : FuncData} (F : Fun K "_enter_free" "Database._enter_free" s_Database__enter_free f fd) (B : DbTxt K mg c) (M : ModeTxt K mg C p g t mc) (C_T : CDf P w K mg base 1 "Transaction" c.T (spTrInit c)) :
    FnOk P w K mg base CX0 3 f fd ["self", "mode"] (spFree3 c CW) := by
  refine F.ok sc_Database__enter_free (fun vs H Q E h => ?_) (fun cdv A outer s H vs Q E hr h => ?_)
  · obtain ⟨S, F, z, rfl, _⟩ := h
    rfl
  · obtain ⟨S, F, z, rfl, hp, hd, k⟩ := h
    refine ⟨_, (pss_cons (ps_if (pt_cmpR op_eq (pv 1) (ClX.pe_cval (pe_glob (v := .ref _) rfl M.mo rfl)) (nomark _))
  pss_dead
  pss_nil)
  (pss_cons (ps_if (pt_cmpR op_in_seq (pv 1) (pe_tup (pa_cons (ClX.pe_cval (pe_glob (v := .ref _) rfl M.mo rfl)) (pa_cons (ClX.pe_cval (pe_glob (v := .ref _) rfl M.mo rfl)) (pa_cons (ClX.pe_cval (pe_glob (v := .ref _) rfl M.mo rfl)) pa_nil)))) (by rfl))
  (pss_one (ps_ret (pe_gv B.gN rfl)))
  pss_nil)
  (pss_cons (ps_fld (pv 0) (pe_mk0 C_T hr (by decide) rfl) rfl)
  (pss_one (ps_ret (pe_gv B.gE rfl)))))), ?_⟩
    obtain ⟨u4, c4⟩ := M.con "MUST" "must" (by simp)
    obtain ⟨u5, c5⟩ := M.con "EITHER" "either" (by simp)
    obtain ⟨u6, c6⟩ := M.con "NEVER" "never" (by simp)
    obtain ⟨u7, c7⟩ := M.con "OUTSIDE" "outside" (by simp)
    refine ⟨_, rfl, C, mc, _, _, rfl, M.rd, c4, rfl, _, rfl, ?_⟩
    have e1 : decide (V.str z = V.str "must") = false := by
      rcases k with ⟨rfl, _⟩ | ⟨rfl, _⟩ <;> decide
    rw [e1]
    refine iteF ?_
    refine ⟨_, rfl, C, mc, _, _, rfl, M.rd, c5, C, mc, _, _, rfl, M.rd, c6, C, mc, _, _, rfl, M.rd, c7, (by show 3 ≤ sizeLine; decide), fun y ny => ?_⟩
    refine ⟨y, _, rfl, .inr (SqT.of upd_same), rfl, rfl, _, rfl, ?_⟩
    rw [show (if false = true then _ else _) = _ from if_neg Bool.false_ne_true]
    rcases k with ⟨rfl, k⟩ | ⟨rfl, k⟩
    · have e2 : inV (.str "either") [.str "either", .str "never", .str "outside"] = true := by decide +kernel
      rw [e2]
      exact iteT (k _ (Same.new ny))
    · have e2 : inV (.str "join") [.str "either", .str "never", .str "outside"] = false := by decide +kernel
      rw [e2]
      refine iteF fun t dx nt nd ne => ?_
      refine mk_tr nt nd ne fun H1 q s1 no ns tr => ⟨rfl, ?_⟩
      have hdb := hd.db
      rcases S with ⟨d, p, made, kept, pre, pr⟩
      obtain rfl : pr = none := hp
      have s0 := (Same.new (o := .tup [.str "either", .str "never", .str "outside"]) ny).trans s1
      have h1 := hdb.mv (fun x o _ e => s0 x o e) (F' := F) fun _ z => z
      have nt0 := (none_of nt).2
      have no0 := (none_of no).2
      have ns0 := (none_of ns).2
      refine ⟨_, rfl, d, c.D, p.dx, _, rfl, h1.hd, B.cD, B.nP, (by show 6 < 1000; decide), ?_⟩
      have fr : Fr F (fun x => F x ∨ x = t ∨ x = q.o ∨ x = q.s) H (upd H1 d (.ins c.D p.dx (dbf (.ref t) p.b p.m p.h p.k))) := by
        refine ⟨fun x o e n => ?_, fun x h => .inl h, fun x h => ?_⟩
        · have q : x ≠ d := fun z => n (z ▸ hdb.fd)
          rw [upd_ne q]
          exact s0 x o e
        · rcases h with h | h | h | h
          · exact .inl h
          · exact .inr (h ▸ nt0)
          · exact .inr (h ▸ no0)
          · exact .inr (h ▸ ns0)
      refine k _ _ t q fr ((h1.setPv (.ref t)).mv (fun x o _ e => e) fun x h => .inl h) nt0 no0 ns0 (.inr (.inl rfl)) (.inr (.inr (.inl rfl))) (.inr (.inr (.inr rfl))) tr.2.2.2 ?_ ?_ ?_ fun x xs e => ?_
      · rw [upd_ne (ne_kin tr.1 h1.hd (by simp [kin]))]
        exact tr.1
      · rw [upd_ne (ne_kin tr.2.1 h1.hd (by simp [kin]))]
        exact tr.2.1
      · rw [upd_ne (ne_kin tr.2.2.1 h1.hd (by simp [kin]))]
        exact tr.2.2.1
      · rw [upd_ne (ne_kin (s0 _ _ e) h1.hd (by simp [kin]))]
        exact s0 _ _ e
theorem ok_pres3 {f C p g t : Addr} {mc : Value} {fd : FuncData} (F : Fun K "_enter_present" "Database._enter_present" s_Database__enter_present f fd) (B : DbTxt K mg c) (M : ModeTxt K mg C p g t mc) :
    FnOk P w K mg base CX0 3 f fd ["self", "mode", "present"] (spPres3 c CW) := by
  refine F.ok sc_Database__enter_present (fun vs H Q E h => ?_) (fun cdv A outer s H vs Q E hr h => ?_)
  · obtain ⟨d, t, z, rfl, _⟩ := h
    rfl
  · obtain ⟨d, t, z, rfl, hz, k⟩ := h
    refine ⟨_, (pss_cons (ps_if (pt_cmpR op_in_seq (pv 1) (pe_tup (pa_cons (ClX.pe_cval (pe_glob (v := .ref _) rfl M.mo rfl)) (pa_cons (ClX.pe_cval (pe_glob (v := .ref _) rfl M.mo rfl)) pa_nil))) (by rfl))
  pss_dead
  pss_nil)
  (pss_cons (ps_if (pt_cmpR op_in_seq (pv 1) (pe_tup (pa_cons (ClX.pe_cval (pe_glob (v := .ref _) rfl M.mo rfl)) (pa_cons (ClX.pe_cval (pe_glob (v := .ref _) rfl M.mo rfl)) (pa_cons (ClX.pe_cval (pe_glob (v := .ref _) rfl M.mo rfl)) pa_nil)))) (by rfl))
  (pss_one (ps_ret (pe_gv B.gD rfl)))
  pss_nil)
  (pss_cons ps_dead
  (pss_cons ps_dead
  (pss_cons ps_dead
  (pss_cons ps_dead
  (pss_one ps_dead))))))), ?_⟩
    obtain ⟨u1, c1⟩ := M.con "JOIN" "join" (by simp)
    obtain ⟨u4, c4⟩ := M.con "MUST" "must" (by simp)
    obtain ⟨u5, c5⟩ := M.con "EITHER" "either" (by simp)
    obtain ⟨u6, c6⟩ := M.con "NEVER" "never" (by simp)
    obtain ⟨u8, c8⟩ := M.con "ALONE" "alone" (by simp)
    refine ⟨_, rfl, C, mc, _, _, rfl, M.rd, c6, C, mc, _, _, rfl, M.rd, c8, (by show 2 ≤ sizeLine; decide), fun y ny => ?_⟩
    refine ⟨y, _, rfl, .inr (SqT.of upd_same), rfl, rfl, _, rfl, ?_⟩
    have s1 := Same.new (o := .tup [.str "never", .str "alone"]) ny
    rw [show (if false = true then _ else _) = _ from if_neg Bool.false_ne_true]
    have e1 : inV (.str z) [.str "never", .str "alone"] = false := by
      rcases hz with rfl | rfl <;> decide +kernel
    have e2 : inV (.str z) [.str "join", .str "must", .str "either"] = true := by
      rcases hz with rfl | rfl <;> decide +kernel
    rw [e1]
    refine iteF ?_
    refine ⟨_, rfl, C, mc, _, _, rfl, M.rd, c1, C, mc, _, _, rfl, M.rd, c4, C, mc, _, _, rfl, M.rd, c5, (by show 3 ≤ sizeLine; decide), fun y2 ny2 => ?_⟩
    refine ⟨y2, _, rfl, .inr (SqT.of upd_same), rfl, rfl, _, rfl, ?_⟩
    have s2 := s1.trans (Same.new (o := .tup [.str "join", .str "must", .str "either"]) ny2)
    rw [show (if false = true then _ else _) = _ from if_neg Bool.false_ne_true, e2]
    exact iteT (k _ s2)
theorem see_fresh {S : S3} {P : P3} {r : Str} (h1 : S.pr = none) (h2 : P.own = []) (pre : List Addr) : S3.see ⟨S.d, S.p, S.made, S.kept, pre, some P⟩ r = S.see r := by
  unfold S3.see
  rw [h1]
  show ((ofR P.own r).getLast?).or _ = ((ofR [] r).getLast?).or _
  rw [h2]
theorem ok_enter3 {f C p g t : Addr} {mc : Value} {fd fdm : FuncData} (F : Fun K "enter" "Database.enter" s_Database_enter f fd) (B : DbTxt K mg c) (M : ModeTxt K mg C p g t mc) (F_is_mode : FnOk P w K mg base CX0 1 g fdm ["thing"] (spIsMode K)) (b_is_mode : Binds K fdm ["thing"] [])
    (M_enter_free : MDf P w K mg base CX0 3 c.D "_enter_free" ["self", "mode"] [] (spFree3 c CW)) (M_enter_present : MDf P w K mg base CX0 3 c.D "_enter_present" ["self", "mode", "present"] [] (spPres3 c CW)) :
    FnOk P w K mg base CX0 4 f fd ["self", "mode"] (spEnter3 c CW) := by
  refine F.ok sc_Database_enter (fun vs H Q E h => ?_) (fun cdv A outer s H vs Q E hr h => ?_)
  · obtain ⟨S, F, z, n, rfl, _⟩ := h
    rfl
  · obtain ⟨S, F, z, n, rfl, hz, hd, sz, hn, k⟩ := h
    refine ⟨_, (pss_cons (ps_if (pt_not (pt_val (pe_smeth (pe_glob (v := .ref _) rfl M.mo rfl) M.sm F_is_mode b_is_mode hr (by decide) (pa_cons (pv 1) pa_nil))))
  pss_dead
  pss_nil)
  (pss_cons (ps_set (i := 2) sc_Database_enter.nd rfl (Or.inl rfl) (pe_fld (pv 0) rfl))
  (Evl.pss_cut (ps_if (pt_cmpR op_isN (pv 2) pe_non (nomark _))
  (pss_one (ps_set (i := 3) sc_Database_enter.nd rfl (Or.inl rfl) (pe_md M_enter_free B.cD hr (by decide) (pv 0) (pa_cons (pv 1) pa_nil))))
  (pss_one (ps_set (i := 3) sc_Database_enter.nd rfl (Or.inl rfl) (pe_md M_enter_present B.cD hr (by decide) (pv 0) (pa_cons (pv 1) (pa_cons (pv 2) pa_nil))))))
  (pss_one (ps_expr (pe_bm PySem.F.plainAttrs_list PySem.F.slot_list_append PySem.F.type_list_append mt_append (pe_fld (pv 0) rfl) (pa_cons (pe_tup (pa_cons (pv 3) (pa_cons (pv 2) pa_nil))) pa_nil))))))), ?_⟩
    have hm : z ∈ modesS := by rcases hz with rfl | rfl <;> simp [modesS]
    refine ⟨rfl, _, rfl, _, rfl, .inl ⟨z, rfl, ?_⟩⟩
    rw [mode_in hm]
    refine ⟨true, rfl, iteF ?_⟩
    have hdb := hd.db
    have htr := hd.tr
    have hnp := hd.np
    rcases S with ⟨d, p, made, kept, pre, pr⟩
    refine ⟨_, rfl, d, c.D, p.dx, _, pvO pr, rfl, hdb.hd, B.cD, B.nP, rfl, ?_⟩
    refine ⟨fun σ' H' => ∃ (eff : Str) (uv : V) (F' : Addr → Prop), σ' = [some (.ref d), some (.str z), some (pvO pr), some (.str eff)] ∧ D3 c CW H' F' d p uv (blO pre pr) made (heO pr) kept ∧
      (∀ y, H' y = none → D3 c CW (upd (upd H' y (.tup [.str eff, pvO pr])) p.b (.lst ((blO pre pr ++ [y]).map V.ref))) (fun x => F' x ∨ x = y) d p uv (blO pre pr ++ [y]) made (heO pr) kept →
      upd (upd H' y (.tup [.str eff, pvO pr])) p.b (.lst ((blO pre pr ++ [y]).map V.ref)) y = some (.tup [.str eff, pvO pr]) → Fr F' (fun x => F' x ∨ x = y) H' (upd (upd H' y (.tup [.str eff, pvO pr])) p.b (.lst ((blO pre pr ++ [y]).map V.ref))) →
      (∀ a o, H' a = some o → a ≠ p.b → upd (upd H' y (.tup [.str eff, pvO pr])) p.b (.lst ((blO pre pr ++ [y]).map V.ref)) a = some o) →
      Q .non (upd (upd H' y (.tup [.str eff, pvO pr])) p.b (.lst ((blO pre pr ++ [y]).map V.ref)))), ?_, ?_⟩
    · cases pr with
      | none =>
        refine ⟨_, rfl, rfl, _, rfl, iteT ?_⟩
        refine ⟨_, rfl, d, p.dx, _, rfl, hdb.hd, rfl, _, rfl, ⟨d, p, made, kept, pre, none⟩, F, z, rfl, rfl, hd, ?_⟩
        rcases hz with rfl | rfl
        · refine .inr ⟨rfl, fun H' F' t q fr db nt no ns ft fo fs nos ht ho hs ks => ⟨_, _, F', rfl, db, fun y ny db2 hy fr2 kk => ?_⟩⟩
          have yb : ∀ {x : Addr} {o : HO}, H' x = some o → (kin o = 1 → x ≠ p.b) → upd (upd H' y (.tup [.str "ends", .non])) p.b (.lst ((pre ++ [y]).map V.ref)) x = some o := fun {x o} e n => kk x o e fun q => by
            refine n ?_ q
            rw [q, db.hb] at e
            injection e with e
            rw [← e]
            rfl
          have fo' : H p.b ≠ none := by rw [hdb.hb]; simp
          have fm' : H p.m ≠ none := by rw [hdb.hm]; simp
          have nb : ∀ {x : Addr}, H x = none → x ≠ p.b := fun e z => fo' (z ▸ e)
          have nm : ∀ {x : Addr}, H x = none → x ≠ p.m := fun e z => fm' (z ▸ e)
          refine k _ _ ⟨d, p, made, kept, pre, some ⟨t, q, [], [], y, []⟩⟩ (fr.trans fr2) ⟨db2, fun x hx => ?_, fun P e => ?_⟩ rfl ⟨Nat.le_succ_of_le sz.m, ?_, Nat.le_succ_of_le sz.k, Nat.le_refl _⟩ ⟨?_, fun r => see_fresh (S := ⟨d, p, made, kept, pre, none⟩) rfl rfl pre⟩
          · have g := hnp x hx
            have e := fr.s x g.2
            refine ⟨kk _ _ ?_ ?_, .inl e⟩
            · exact ks _ _ g.1
            · exact ne_kin g.1 hdb.hb (by simp [kin])
          · cases e
            exact ⟨kk _ _ ht (nb nt), kk _ _ ho (nb no), kk _ _ hs (nb ns), nofun, nofun, nofun, nofun, nos, nb no, nm no, nb ns, nm ns, nofun, hy, nofun, .inl ft, .inl fo, .inl fs, .inr rfl, nofun, nofun, nofun⟩
          · have := sz.b
            show (pre ++ [y]).length ≤ n + 1
            rw [List.length_append, List.length_singleton]
            exact Nat.succ_le_succ this
          · show (pre ++ [y]).length = pre.length + 1
            rw [List.length_append, List.length_singleton]
        · refine .inl ⟨rfl, fun H' s => ⟨_, _, F, rfl, hdb.mv (fun x o _ e => s x o e) fun _ z => z, fun y ny db2 hy fr2 kk => ?_⟩⟩
          refine k _ _ ⟨d, p, made, kept, pre ++ [y], none⟩ ((Fr.same s).trans fr2) ⟨db2, fun x hx => ?_, nofun⟩ rfl ⟨Nat.le_succ_of_le sz.m, ?_, Nat.le_succ_of_le sz.k, Nat.le_refl _⟩ ⟨?_, fun r => rfl⟩
          · rcases List.mem_append.mp hx with hx | hx
            · have g := hnp x hx
              exact ⟨kk _ _ (s _ _ g.1) (ne_kin g.1 hdb.hb (by simp [kin])), .inl g.2⟩
            · rw [List.mem_singleton.mp hx]
              exact ⟨hy, .inr rfl⟩
          · have := sz.b
            show (pre ++ [y]).length ≤ n + 1
            rw [List.length_append, List.length_singleton]
            exact Nat.succ_le_succ this
          · show (pre ++ [y]).length = pre.length + 1
            rw [List.length_append, List.length_singleton]
      | some P =>
        refine ⟨_, rfl, rfl, _, rfl, iteF ?_⟩
        refine ⟨_, rfl, d, p.dx, _, rfl, hdb.hd, rfl, _, rfl, _, rfl, d, P.t, z, rfl, hz, fun H' s => ?_⟩
        have tr := htr P rfl
        refine ⟨_, _, F, rfl, hdb.mv (fun x o _ e => s x o e) fun _ z => z, fun y ny db2 hy fr2 kk => ?_⟩
        have e3 : blO pre (some P) ++ [y] = blO pre (some { P with ds := P.ds ++ [y] }) := by
          show (pre ++ (P.e :: P.ds)) ++ [y] = pre ++ (P.e :: (P.ds ++ [y]))
          rw [List.append_assoc]
          rfl
        rw [e3] at db2 hy fr2 kk ⊢
        have tr2 : T3 c CW (upd (upd H' y (.tup [.str "dooms", .ref P.t])) p.b (.lst ((blO pre (some { P with ds := P.ds ++ [y] })).map V.ref))) (fun x => F x ∨ x = y) p P := tr.mvc (fun x o hx e => kk x o (s x o e) (tr.apart hdb hx).2.1) fun x h => .inl h
        refine k _ _ ⟨d, p, made, kept, pre, some { P with ds := P.ds ++ [y] }⟩ ((Fr.same s).trans fr2) ⟨db2, fun x hx => ?_, fun P2 e => ?_⟩ rfl ⟨Nat.le_succ_of_le sz.m, ?_, Nat.le_succ_of_le sz.k, sz.h⟩ ⟨?_, fun r => rfl⟩
        · have g := hnp x hx
          exact ⟨kk _ _ (s _ _ g.1) (ne_kin g.1 hdb.hb (by simp [kin])), .inl g.2⟩
        · cases e
          refine tr2.dsCons (fun x hx => ?_) fun x hx => ?_
          · rcases List.mem_append.mp hx with hx | hx
            · exact tr2.hd x hx
            · rw [List.mem_singleton.mp hx]
              exact hy
          · rcases List.mem_append.mp hx with hx | hx
            · exact tr2.fd x hx
            · exact .inr (List.mem_singleton.mp hx)
        · have := sz.b
          rw [← e3, List.length_append, List.length_singleton]
          exact Nat.succ_le_succ this
        · rw [← e3, List.length_append, List.length_singleton]
    · rintro σ' H' ⟨eff, uv, F', rfl, db, k'⟩
      refine ⟨_, rfl, d, c.D, p.dx, _, _, rfl, db.hd, B.cD, B.nB, rfl, .inl ⟨rfl, _, SqL.of db.hb⟩, ?_⟩
      refine ⟨_, rfl, _, rfl, (by show 2 ≤ sizeLine; decide), fun y ny => ?_⟩
      have e4 : (blO pre pr).map V.ref ++ [V.ref y] = (blO pre pr ++ [y]).map V.ref := by rw [List.map_append]; rfl
      refine ⟨p.b, _, _, rfl, rfl, (by rw [upd_ne (ne_of_none db.hb ny)]; exact db.hb), small1000 (by have zb : (blO pre pr).length ≤ n := sz.b; rw [List.length_map]; omega), ?_⟩
      rw [e4]
      have d1 : D3 c CW (upd H' y (.tup [.str eff, pvO pr])) (fun x => F' x ∨ x = y) d p uv (blO pre pr) made (heO pr) kept := db.mv (fun x o _ e => by rw [upd_ne (ne_of_none e ny)]; exact e) fun x h => .inl h
      refine k' y ny (d1.setBl _) ?_ ?_ fun a o e n => ?_
      · rw [upd_ne (ne_of_none db.hb ny).symm, upd_same]
      · exact (Fr.add ny).trans (Fr.at_ d1.fb)
      · rw [upd_ne n, upd_ne (ne_of_none e ny)]
        exact e
end
end IC
namespace IC
open PySem L2 TL
def rest (held : List (Str × Addr)) (l : List Wr) : List (Str × Addr) := held.filter fun z => !(l.any fun x => decide (x.r = z.1))
theorem rest_nil (held : List (Str × Addr)) : rest held [] = held := List.filter_eq_self.mpr fun _ _ => rfl
theorem rest_snoc (held : List (Str × Addr)) (l : List Wr) (x : Wr) : (rest held l).filter (fun z => decide (z.1 ≠ x.r)) = rest held (l ++ [x]) := by
  unfold rest
  rw [List.filter_filter]
  apply List.filter_congr
  intro z _
  rw [List.any_append, List.any_cons, List.any_nil, Bool.or_false, Bool.not_or, Bool.and_comm]
  congr 1
  by_cases e : x.r = z.1
  · simp [e]
  · have e2 : ¬ z.1 = x.r := fun q => e q.symm
    simp [e, e2]
section
variable {P : Program} {w : World} {K : PySem.W.Frag} {mg : Str → Option Value} {base : Heap} {c : Cs} {CW : Addr}
structure KInv (c : Cs) (CW : Addr) (H H' : Hp) (F : Addr → Prop) (d t : Addr) (p : DbP) (pre : List Addr) (made : List V) (held : List (Str × Addr)) (kept own done : List Wr) (q : TrP) : Prop where
  fr : Fr F F H H'
  db : D3 c CW H' F d p .non pre made (rest held done) (done.foldl putW kept)
  ho : H' q.o = some (.lst (refs own))
  hw : ∀ x ∈ own, WAt CW H' (.ref t) x
  kt : ∀ x xs, H x = some (.tup xs) → H' x = some (.tup xs)
theorem len_fold (own : List Wr) : ∀ kept : List Wr, (own.foldl putW kept).length ≤ kept.length + own.length := by
  induction own with
  | nil => exact fun _ => Nat.le_refl _
  | cons x l ih =>
    intro kept
    have := ih (putW kept x)
    have := len_putW kept x
    rw [List.foldl_cons, List.length_cons]
    omega
theorem ok_keep3 {f : Addr} {fd : FuncData} (F : Fun K "_keep" "Database._keep" s_Database__keep f fd) (B : DbTxt K mg c) (W : WTxt K c CW) : FnOk P w K mg base CX0 1 f fd ["self", "transaction"] (spKeep3 c CW) := by
  refine F.ok sc_Database__keep (fun vs H Q E h => ?_) (fun cdv A outer s H vs Q E hr h => ?_)
  · obtain ⟨d, t, p, pre, made, held, kept, own, F, q, sv, rfl, _⟩ := h
    rfl
  · obtain ⟨d, t, p, pre, made, held, kept, own, F, q, sv, rfl, db, ht, ho, nob, nom, hw, hh, l1, l2, k⟩ := h
    have hu := hu_of hr
    refine ⟨_, (pss_one (ps_for PassesOwn.never rfl (pi_list (pe_fld (pv 1) rfl)) (pg_name (i := 2) sc_Database__keep.nd rfl (Or.inl rfl))
  (pss_cons (ps_fld (pv 2) pe_str rfl)
  (pss_cons (ps_dput hu (pe_fld (pv 0) rfl) (pe_fld (pv 2) rfl) (pv 2) rfl)
  (pss_one (ps_expr (pe_dpop2 (pe_fld (pv 0) rfl) (pe_fld (pv 2) rfl) pe_non ⟨by rfl, by rfl, by rfl, by rfl⟩))))))), ?_⟩
    refine ⟨_, rfl, t, c.T, q.dx, _, _, rfl, ht, B.cT, B.nO, rfl, q.o, rfl, ⟨_, SqL.of ho⟩, for_list (K := K) (a := q.o) (xs := refs own) (fun i σ H' => ∃ wv, σ = [some (.ref d), some (.ref t), wv] ∧ KInv c CW H H' F d t p pre made held kept own (own.take i) q)
      ⟨none, rfl, Fr.refl _ _, by rw [List.take_zero, rest_nil]; exact db, ho, fun x hx => (hw x hx).1, fun _ _ e => e⟩ (fun i σ H' _ e => ?_) (fun i x σ H' hi e => ?_) (fun σ H' e => ?_)⟩
    · obtain ⟨wv, rfl, I⟩ := e
      exact SqL.of I.ho
    · obtain ⟨wv, rfl, I⟩ := e
      have hi2 : own[i]?.map (fun x => V.ref x.a) = some x := by rw [← List.getElem?_map]; exact hi
      obtain ⟨y, hy, rfl⟩ := Option.map_eq_some_iff.mp hi2
      have ym : y ∈ own := List.mem_of_getElem? hy
      obtain ⟨dx, ft, ew⟩ := I.hw y ym
      have fy := (hw y ym).2
      have tk : own.take (i + 1) = own.take i ++ [y] := by rw [List.take_add_one, hy]; rfl
      have lk : ((own.take i).foldl putW kept).length ≤ 900 := by
        have a := len_fold (own.take i) kept
        have b : (own.take i).length ≤ own.length := by rw [List.length_take]; exact Nat.min_le_right _ _
        omega
      refine ⟨_, rfl, y.a, CW, dx, _, rfl, ew, W.cW, W.nF, (by show 4 < 1000; decide), ?_⟩
      have d1 := I.db.fate (f' := "kept") ew
      have w1 : ∀ x ∈ own, WAt CW (upd H' y.a (.ins CW dx (wrf y.r y.v (.ref t) (.str "kept")))) (.ref t) x := fun x hx => by
        obtain ⟨dx2, f2, e2⟩ := I.hw x hx
        by_cases q : x.a = y.a
        · rw [q, ew] at e2
          injection e2 with e2
          injection e2 with _ e3 e4
          simp only [List.cons.injEq, Prod.mk.injEq, V.str.injEq, true_and, and_true] at e4
          exact ⟨dx, "kept", by rw [q, upd_same, e4.1, e4.2.1]⟩
        · exact ⟨dx2, f2, by rw [upd_ne q]; exact e2⟩
      refine ⟨_, rfl, _, rfl, d, c.D, p.dx, _, _, rfl, d1.hd, B.cD, B.nK, rfl, _, rfl, y.a, CW, dx, _, _, rfl, upd_same, W.cW, W.nR, rfl, p.k, _, rfl, DPut.k (k := .inr y.r) d1.hk (small1000 (by rw [len_kd]; omega)), ?_⟩
      have d2 := d1.setKept (x := y) (w1 y ym) fy
      have e5 : upd (upd H' y.a (.ins CW dx (wrf y.r y.v (.ref t) (.str "kept")))) p.k (.dK (putK (kd ((own.take i).foldl putW kept)) (.inr y.r) (.ref y.a))) y.a = some (.ins CW dx (wrf y.r y.v (.ref t) (.str "kept"))) := by
        rw [upd_ne (ne_kin upd_same d1.hk (by simp [kin])), upd_same]
      have sv : ∀ a o, H' a = some o → kin o ≠ 14 → kin o ≠ 3 → upd (upd H' y.a (.ins CW dx (wrf y.r y.v (.ref t) (.str "kept")))) p.k (.dK (putK (kd ((own.take i).foldl putW kept)) (.inr y.r) (.ref y.a))) a = some o := fun a o e n1 n2 => by
        rw [upd_ne (ne_kin e I.db.hk n2), upd_ne (ne_kin e ew n1)]
        exact e
      have w2 : ∀ x ∈ own, WAt CW (upd (upd H' y.a (.ins CW dx (wrf y.r y.v (.ref t) (.str "kept")))) p.k (.dK (putK (kd ((own.take i).foldl putW kept)) (.inr y.r) (.ref y.a)))) (.ref t) x := fun x hx => by
        obtain ⟨dx2, f2, e2⟩ := w1 x hx
        exact ⟨dx2, f2, by rw [upd_ne (ne_kin e2 d1.hk (by simp [kin]))]; exact e2⟩
      have fr2 := I.fr.trans ((Fr.at_ (o := .ins CW dx (wrf y.r y.v (.ref t) (.str "kept"))) fy).trans (Fr.at_ (o := .dK (putK (kd ((own.take i).foldl putW kept)) (.inr y.r) (.ref y.a))) I.db.fk))
      have fold : (own.take (i + 1)).foldl putW kept = putW ((own.take i).foldl putW kept) y := by rw [tk, List.foldl_append]; rfl
      refine ⟨_, rfl, d, c.D, p.dx, _, _, rfl, d2.hd, B.cD, B.nH, rfl, p.h, rfl, .inl ⟨_, .inl d2.hh⟩, _, rfl, y.a, CW, dx, _, _, rfl, e5, W.cW, W.nR, rfl, _, .inr y.r, d2.hh, rfl, fun v _ => ?_, fun e6 => ?_⟩
      · rw [dropK_hd3, rest_snoc, ← tk]
        refine ⟨_, rfl, fr2.trans (Fr.at_ I.db.fh), ?_, ?_, fun x hx => ?_, fun x xs e => ?_⟩
        · rw [fold]
          exact d2.setHeld _
        · rw [upd_ne (ne_kin (sv _ _ I.ho (by simp [kin]) (by simp [kin])) d2.hh (by simp [kin]))]
          exact sv _ _ I.ho (by simp [kin]) (by simp [kin])
        · obtain ⟨dx2, f2, e2⟩ := w2 x hx
          exact ⟨dx2, f2, by rw [upd_ne (ne_kin e2 d2.hh (by simp [kin]))]; exact e2⟩
        · have e3 := sv _ _ (I.kt x xs e) (by simp [kin]) (by simp [kin])
          rw [upd_ne (ne_kin e3 d2.hh (by simp [kin]))]
          exact e3
      · have er : rest held (own.take (i + 1)) = rest held (own.take i) := by
          rw [tk, ← rest_snoc]
          refine List.filter_eq_self.mpr fun z hz => decide_eq_true fun q => ?_
          rw [valV_hd3, Option.map_eq_none_iff, List.find?_eq_none] at e6
          exact e6 z hz (decide_eq_true q)
        refine ⟨_, rfl, fr2, ?_, sv _ _ I.ho (by simp [kin]) (by simp [kin]), w2, fun x xs e => sv _ _ (I.kt x xs e) (by simp [kin]) (by simp [kin])⟩
        rw [fold, er]
        exact d2
    · obtain ⟨wv, rfl, I⟩ := e
      have e1 : own.take (refs own).length = own := by
        unfold refs
        rw [List.length_map, List.take_length]
      have db := I.db
      rw [e1] at db
      have e2 : rest held own = [] := List.filter_eq_nil_iff.mpr fun z hz => by
        obtain ⟨x, hx, e⟩ := hh z hz
        rw [List.any_eq_true.mpr ⟨x, hx, decide_eq_true e⟩]
        exact Bool.false_ne_true
      rw [e2] at db
      exact k _ I.fr db I.kt
theorem ok_end_level3 {f : Addr} {fd : FuncData} (F : Fun K "_end_level" "Database._end_level" s_Database__end_level f fd) (B : DbTxt K mg c) (M_keep : MDf P w K mg base CX0 1 c.D "_keep" ["self", "transaction"] [] (spKeep3 c CW)) :
    FnOk P w K mg base CX0 2 f fd ["self", "transaction", "error", "commits"] (spEndL3 c CW) := by
  refine F.ok sc_Database__end_level (fun vs H Q E h => ?_) (fun cdv A outer s H vs Q E hr h => ?_)
  · obtain ⟨d, p, pre, made, kept, F, P, rfl, _⟩ := h
    rfl
  · obtain ⟨d, p, pre, made, kept, F, R, rfl, db, tr, l1, l2, k⟩ := h
    refine ⟨_, (pss_cons (ps_set (i := 4) sc_Database__end_level.nd rfl (Or.inl rfl) (pe_bm0 PySem.F.plainAttrs_list PySem.F.slot_list_pop PySem.F.type_list_pop mt_pop (pe_fld (pv 1) rfl)))
  (pss_cons (ps_set (i := 5) sc_Database__end_level.nd rfl (Or.inl rfl) (pe_fld (pv 1) rfl))
  (pss_cons (ps_fld (pv 1) pe_non rfl)
  (pss_cons (ps_if (PW.pt (pw_or (pt_cmpR op_notN (pv 2) pe_non (nomark _)) (pw_or1 (pt_cmpR op_notN (pv 5) pe_non (nomark _)))))
  pss_dead
  pss_nil)
  (pss_cons (ps_if (pt_truth (pe_fld (pv 1) rfl) (by intro _; rfl))
  (pss_one (ps_ret pe_str))
  pss_nil)
  (pss_cons (ps_if (pt_not (pt_val (pv 3)))
  pss_dead
  pss_nil)
  (pss_cons (ps_expr (pe_md M_keep B.cD hr (by decide) (pv 0) (pa_cons (pv 1) pa_nil)))
  (pss_one (ps_ret pe_str))))))))), ?_⟩
    refine ⟨_, rfl, R.t, c.T, R.q.dx, _, _, rfl, tr.ht, B.cT, B.nS, rfl, .inl ⟨rfl, _, SqL.of tr.hs⟩, R.q.s, _, .int 0, rfl, rfl, tr.hs, rfl, ?_⟩
    have d1 := db.offL (o := .lst []) tr.hs tr.nsb.symm tr.nsm.symm
    have t1 : upd H R.q.s (.lst []) R.t = some (.ins c.T R.q.dx (trf R.q.o R.q.s .non)) := by
      rw [upd_ne (ne_kin tr.ht tr.hs (by simp [kin]))]
      exact tr.ht
    refine ⟨_, rfl, R.t, c.T, R.q.dx, _, _, rfl, t1, B.cT, B.n1, rfl, ?_⟩
    refine ⟨_, rfl, R.t, c.T, R.q.dx, _, rfl, t1, B.cT, B.n1, (by show 3 < 1000; decide), ?_⟩
    refine ⟨_, rfl, rfl, _, rfl, iteF ⟨_, rfl, rfl, _, rfl, iteF ?_⟩⟩
    have d2 := d1.offT (o := .ins c.T R.q.dx (trf R.q.o R.q.s .non)) t1
    have s2 : upd (upd H R.q.s (.lst [])) R.t (.ins c.T R.q.dx (trf R.q.o R.q.s .non)) R.q.s = some (.lst []) := by
      rw [upd_ne (ne_kin tr.hs tr.ht (by simp [kin])), upd_same]
    refine ⟨_, rfl, R.t, c.T, R.q.dx, _, _, rfl, upd_same, B.cT, B.nS, rfl, _, .inl ⟨_, SqL.of s2, rfl⟩, ?_⟩
    refine iteF ?_
    refine ⟨_, rfl, true, rfl, iteF ?_⟩
    have nn : ∀ a o, H a = some o → a ≠ R.q.s → a ≠ R.t → upd (upd H R.q.s (.lst [])) R.t (.ins c.T R.q.dx (trf R.q.o R.q.s .non)) a = some o := fun a o e n1 n2 => by
      rw [upd_ne n2, upd_ne n1]
      exact e
    refine ⟨_, rfl, d, p.dx, _, rfl, d2.hd, rfl, _, rfl, d, R.t, p, pre, made, R.held, kept, R.own, F, R.q, [], rfl, d2, upd_same, nn _ _ tr.ho tr.nos (ne_kin tr.ho tr.ht (by simp [kin])), tr.nob, tr.nom, fun x hx => ⟨?_, tr.fw x hx⟩, fun z hz => ?_, l1, l2, fun H' fr db' kt => ?_⟩
    · obtain ⟨dx, ft, e⟩ := tr.hw x hx
      exact ⟨dx, ft, nn _ _ e (ne_kin e tr.hs (by simp [kin])) (ne_kin e tr.ht (by simp [kin]))⟩
    · obtain ⟨x, hx⟩ := List.exists_mem_of_ne_nil _ (tr.hl z hz).2
      have hx := List.mem_filter.mp hx
      exact ⟨x, hx.1, of_decide_eq_true hx.2⟩
    · exact k H' (((Fr.at_ tr.fs).trans (Fr.at_ tr.ft)).trans fr) db' fun x xs e => kt _ _ (nn _ _ e (ne_kin e tr.hs (by simp [kin])) (ne_kin e tr.ht (by simp [kin])))
theorem blocks_last {H : Hp} {F : Addr → Prop} {S : S3} (h : Db3 c CW H F S) (n : 0 < (blO S.pre S.pr).length) : ∃ (l : List Addr) (y : Addr) (eff : Str) (bv : V), blO S.pre S.pr = l ++ [y] ∧ H y = some (.tup [.str eff, bv]) ∧
    ((S.pr = none ∧ S.pre = l ++ [y] ∧ eff = "nothing" ∧ bv = .non) ∨ (∃ (R : P3) (ds : List Addr), S.pr = some R ∧ R.ds = ds ++ [y] ∧ l = blO S.pre (some { R with ds := ds }) ∧ eff = "dooms" ∧ bv = .ref R.t) ∨
     ∃ R : P3, S.pr = some R ∧ y = R.e ∧ l = S.pre ∧ eff = "ends" ∧ bv = .non) := by
  rcases S with ⟨d, p, made, kept, pre, pr⟩
  cases pr with
  | none =>
    have ne : pre ≠ [] := List.length_pos_iff.mp n
    have e := (List.dropLast_concat_getLast ne).symm
    exact ⟨pre.dropLast, pre.getLast ne, "nothing", .non, e, (h.np _ (List.getLast_mem ne)).1, .inl ⟨rfl, e, rfl, rfl⟩⟩
  | some R =>
    have tr := h.tr R rfl
    by_cases ne : R.ds = []
    · refine ⟨pre, R.e, "ends", .non, ?_, tr.he, .inr (.inr ⟨R, rfl, rfl, rfl, rfl, rfl⟩)⟩
      show pre ++ (R.e :: R.ds) = _
      rw [ne]
    · have e := (List.dropLast_concat_getLast ne).symm
      refine ⟨blO pre (some { R with ds := R.ds.dropLast }), R.ds.getLast ne, "dooms", .ref R.t, ?_, tr.hd _ (List.getLast_mem ne), .inr (.inl ⟨R, _, rfl, e, rfl, rfl, rfl⟩)⟩
      show pre ++ (R.e :: R.ds) = (pre ++ (R.e :: R.ds.dropLast)) ++ [R.ds.getLast ne]
      rw [List.append_assoc, List.cons_append, List.dropLast_concat_getLast ne]
theorem ok_end_block3 {f : Addr} {fd : FuncData} (F : Fun K "_end_block" "Database._end_block" s_Database__end_block f fd) (B : DbTxt K mg c) (M_end_level : MDf P w K mg base CX0 2 c.D "_end_level" ["self", "transaction", "error", "commits"] [] (spEndL3 c CW)) :
    FnOk P w K mg base CX0 3 f fd ["self", "error", "commits"] (spEndB3 c CW) := by
  refine F.ok sc_Database__end_block (fun vs H Q E h => ?_) (fun cdv A outer s H vs Q E hr h => ?_)
  · obtain ⟨S, F, n, rfl, _⟩ := h
    rfl
  · obtain ⟨S, F, n, rfl, hd, sz, hn, pos, k⟩ := h
    refine ⟨_, (pss_cons (ps_asg (pe_bm0 PySem.F.plainAttrs_list PySem.F.slot_list_pop PySem.F.type_list_pop mt_pop (pe_fld (pv 0) rfl)) (pg_tup rfl (pgs_cons (pg_name (i := 3) sc_Database__end_block.nd rfl (Or.inl rfl)) (pgs_cons (pg_name (i := 4) sc_Database__end_block.nd rfl (Or.inl rfl)) pgs_nil))))
  (pss_cons (ps_set (i := 5) sc_Database__end_block.nd rfl (Or.inl rfl) (pe_fld (pv 0) rfl))
  (pss_cons (ps_fld (pv 0) (pv 4) rfl)
  (pss_cons (ps_if (pt_cmpR op_eq (pv 3) (pe_gv B.gE rfl) (nomark _))
  (pss_one (ps_ret (pe_md M_end_level B.cD hr (by decide) (pv 0) (pa_cons (pv 5) (pa_cons (pv 1) (pa_cons (pv 2) pa_nil))))))
  pss_nil)
  (pss_cons (ps_if (PW.pt (pw_and (pt_cmpR op_eq (pv 3) (pe_gv B.gD rfl) (nomark _)) (pw_and1 (pt_cmpR op_notN (pv 1) pe_non (nomark _)))))
  pss_dead
  pss_nil)
  (pss_one (ps_ret pe_str))))))), ?_⟩
    obtain ⟨l, y, eff, bv, el, hy, cs⟩ := blocks_last hd pos
    have hdb := hd.db
    have htr := hd.tr
    have hnp := hd.np
    have len : (blO S.pre S.pr).length = l.length + 1 := by rw [el, List.length_append, List.length_singleton]
    rw [el] at hdb
    have hb := hdb.hb
    rw [List.map_append] at hb
    refine ⟨_, rfl, S.d, c.D, S.p.dx, _, _, rfl, hdb.hd, B.cD, B.nB, rfl, .inl ⟨rfl, _, SqL.of hb⟩, S.p.b, _, .ref y, rfl, rfl, hb, ?_, ?_⟩
    · show (l.map V.ref ++ [V.ref y])[(l.map V.ref ++ [V.ref y]).length - 1]? = _
      rw [List.length_append, List.length_singleton, Nat.add_sub_cancel, List.getElem?_append_right (Nat.le_refl _), Nat.sub_self]
      rfl
    show _
    rw [show (l.map V.ref ++ [y].map V.ref).dropLast = l.map V.ref from List.dropLast_concat]
    have yb : y ≠ S.p.b := ne_kin hy hdb.hb (by simp [kin])
    refine ⟨y, _, rfl, SqT.of (by rw [upd_ne yb]; exact hy), rfl, _, _, rfl, _, _, rfl, rfl, ?_⟩
    have d1 := hdb.setBl l
    refine ⟨_, rfl, S.d, c.D, S.p.dx, _, _, rfl, d1.hd, B.cD, B.nP, rfl, ?_⟩
    refine ⟨_, rfl, _, rfl, S.d, c.D, S.p.dx, _, rfl, d1.hd, B.cD, B.nP, (by show 6 < 1000; decide), ?_⟩
    have d2 := d1.setPv bv
    refine ⟨_, rfl, rfl, _, rfl, ?_⟩
    have fr : Fr F F H (upd (upd H S.p.b (.lst (l.map V.ref))) S.d (.ins c.D S.p.dx (dbf bv S.p.b S.p.m S.p.h S.p.k))) := (Fr.at_ hdb.fb).trans (Fr.at_ hdb.fd)
    have nn : ∀ a o, H a = some o → a ≠ S.p.b → a ≠ S.d → upd (upd H S.p.b (.lst (l.map V.ref))) S.d (.ins c.D S.p.dx (dbf bv S.p.b S.p.m S.p.h S.p.k)) a = some o := fun a o e n1 n2 => by
      rw [upd_ne n2, upd_ne n1]
      exact e
    have tt : ∀ a xs, H a = some (.tup xs) → upd (upd H S.p.b (.lst (l.map V.ref))) S.d (.ins c.D S.p.dx (dbf bv S.p.b S.p.m S.p.h S.p.k)) a = some (.tup xs) := fun a xs e => nn a _ e (ne_kin e hdb.hb (by simp [kin])) (ne_kin e hdb.hd (by simp [kin]))
    rcases S with ⟨d, p, made, kept, pre, pr⟩
    rcases cs with ⟨rfl, epre, rfl, rfl⟩ | ⟨R, ds, rfl, eds, rfl, rfl, rfl⟩ | ⟨R, rfl, rfl, rfl, rfl, rfl⟩
    · refine iteF ⟨_, rfl, rfl, _, rfl, iteF (iteF ?_)⟩
      have epre : pre = l ++ [y] := epre
      refine k _ F ⟨d, p, made, kept, l, none⟩ fr ⟨d2, fun x hx => ?_, nofun⟩ rfl ⟨sz.m, ?_, sz.k, sz.h⟩ ⟨len.symm, fun r => rfl⟩
      · have g := hnp x (by show x ∈ pre; rw [epre]; exact List.mem_append_left _ hx)
        exact ⟨tt _ _ g.1, g.2⟩
      · have := sz.b
        show l.length ≤ n
        omega
    · refine iteF ⟨_, rfl, rfl, _, rfl, iteT ⟨_, rfl, rfl, _, rfl, iteF ?_⟩⟩
      have tr := htr R rfl
      have tr2 := tr.mvc (fun x o hx e => nn x o e (tr.apart hdb hx).2.1 (tr.apart hdb hx).1) fun _ z => z
      refine k _ F ⟨d, p, made, kept, pre, some { R with ds := ds }⟩ fr ⟨d2, fun x hx => ⟨tt _ _ (hnp x hx).1, (hnp x hx).2⟩, fun R2 e => ?_⟩ rfl ⟨sz.m, ?_, sz.k, sz.h⟩ ⟨len.symm, fun r => rfl⟩
      · cases e
        exact tr2.dsCons (fun z hz => tr2.hd z (by rw [eds]; exact List.mem_append_left _ hz)) fun z hz => tr2.fd z (by rw [eds]; exact List.mem_append_left _ hz)
      · have zb : (blO pre (some R)).length ≤ n := sz.b
        have len : (blO pre (some R)).length = (blO pre (some { R with ds := ds })).length + 1 := len
        show (blO pre (some { R with ds := ds })).length ≤ n
        omega
    · have tr := htr R rfl
      have tr2 := tr.mvc (fun x o hx e => nn x o e (tr.apart hdb hx).2.1 (tr.apart hdb hx).1) fun _ z => z
      have s1 : kept.length + R.own.length ≤ n := sz.k
      refine iteT ⟨_, rfl, d, p.dx, _, rfl, upd_same, rfl, _, rfl, _, rfl, _, rfl, d, p, l, made, kept, F, R, rfl, d2, tr2, by omega, by omega, fun H' fr2 db2 kt => ?_⟩
      refine k _ F ⟨d, p, made, R.own.foldl putW kept, l, none⟩ (fr.trans fr2) ⟨db2, fun x hx => ⟨kt _ _ (tt _ _ (hnp x hx).1), (hnp x hx).2⟩, nofun⟩ rfl ⟨sz.m, ?_, ?_, Nat.le_refl _⟩ ⟨len.symm, fun r => ?_⟩
      · skip
        have zb : (blO l (some R)).length ≤ n := sz.b
        have len : (blO l (some R)).length = l.length + 1 := len
        show l.length ≤ n
        omega
      · have := len_fold R.own kept
        show (R.own.foldl putW kept).length + 0 ≤ n
        omega
      · show ((ofR [] r).getLast?).or (findW (R.own.foldl putW kept) r) = ((ofR R.own r).getLast?).or (findW kept r)
        rw [find_fold]
        rfl
theorem ok_leave3 {f : Addr} {fd : FuncData} {dvs : List V} {kws : List (Str × V)} (F : FunD K "leave" "Database.leave" (defArgs s_Database_leave) (defBody s_Database_leave) (defScope s_Database_leave) dvs kws f fd) (T : Bn mg) (B : DbTxt K mg c) (D_is_word : Df P w K mg base 1 "is_word" ["thing"] (spIsWord K)) (P_reason : PDf P w K mg base 1 c.D "reason" (spLook c CW 0 fun _ _ v => v = .non))
    (M_end_block : MDf P w K mg base CX0 3 c.D "_end_block" ["self", "error", "commits"] [] (spEndB3 c CW)) : FnOk P w K mg base CX0 4 f fd ["self", "error", "commits"] (spLeave3 c CW) := by
  refine F.ok sc_Database_leave (fun vs H Q E h => ?_) (fun cdv A outer s H vs Q E hr h => ?_)
  · obtain ⟨S, F, n, rfl, _⟩ := h
    rfl
  · obtain ⟨S, F, n, rfl, hd, sz, hn, pos, k⟩ := h
    have hdb := hd.db
    refine ⟨_, (pss_cons (ps_if (pt_cmpR op_eq (pe_callB call_len_seq (by rfl) T.len PySem.boot_len (pa_cons (pe_fld (pv 0) rfl) pa_nil)) (pe_fld (pv 0) rfl) (nomark _))
  pss_dead
  pss_nil)
  (pss_cons (ps_if (PW.pt (pw_and (pt_cmpR op_notN (pv 1) pe_non (nomark _)) (pw_and1 (pt_not (pt_val (pe_df D_is_word hr (by decide) rfl (pa_cons (pv 1) pa_nil)))))))
  pss_dead
  pss_nil)
  (pss_cons (ps_set (i := 3) sc_Database_leave.nd rfl (Or.inl rfl) (pe_pd P_reason B.cD hr (by decide) (pv 0)))
  (pss_cons (ps_set (i := 4) sc_Database_leave.nd rfl (Or.inl rfl) (pe_md M_end_block B.cD hr (by decide) (pv 0) (pa_cons (pv 1) (pa_cons (pv 2) pa_nil))))
  (pss_cons (ps_if (pt_cmpR op_eq (pv 4) pe_str (nomark _))
  pss_dead
  pss_nil)
  (pss_one (ps_if (pt_cmpR op_eq (pv 4) pe_str (nomark _))
  pss_dead
  pss_nil))))))), ?_⟩
    refine ⟨_, rfl, S.d, c.D, S.p.dx, _, _, rfl, hdb.hd, B.cD, B.nB, rfl, S.p.b, _, rfl, .inl (SqL.of hdb.hb), _, rfl, S.d, c.D, S.p.dx, _, _, rfl, hdb.hd, B.cD, B.nF, rfl, rfl, _, rfl, ?_⟩
    have e0 : decide (V.int (((blO S.pre S.pr).map V.ref).length : Int) = V.int 0) = false := by
      rw [decide_eq_false_iff_not]
      intro e
      injection e with e
      rw [List.length_map] at e
      omega
    rw [e0]
    refine iteF ?_
    refine ⟨_, rfl, rfl, _, rfl, iteF (iteF ?_)⟩
    refine ⟨_, rfl, S.d, S.p.dx, _, rfl, hdb.hd, S, F, [], _, rfl, rfl, hd, sz.up (by omega), rfl, ?_⟩
    refine ⟨_, rfl, S.d, S.p.dx, _, rfl, hdb.hd, rfl, _, rfl, _, rfl, S, F, n, rfl, hd, sz, hn, pos, fun H' F' S' fr db e z r => ?_⟩
    exact ⟨_, rfl, rfl, _, rfl, iteF ⟨_, rfl, rfl, _, rfl, iteF (k H' F' S' fr db e z r)⟩⟩
end
end IC
namespace IC
open PySem L2 TL
/-- a class that is made with arguments -/
structure CDfA (P : Program) (w : World) (K : PySem.W.Frag) (mg : Str → Option Value) (base : Heap) (k : Nat) (x : Str) (C : Addr) (ps : List Str) (sp : Sp) : Prop where
  ex : ∃ (f : Addr) (fd : FuncData), Mk K C f ∧ FnOk P w K mg base CX0 k f fd ps sp ∧ Binds K fd ps [] ∧ mg x = some (.ref C)
theorem pe_mkw {X : Cx} {k j : Nat} {x : Str} {C : Addr} {ps : List Str} {sp : Sp} {p pos : Pos} {e : Expr} {es : List Expr} {t : TA} (D : CDfA X.prog X.w X.K X.mg X.base k x C ps sp) (hr : Room j X.A) (hk : k + 1 ≤ j) (hg : Gl X x) (ha : PA X (e :: es) t)
    (hdb : (x == ("__debug__" : Str)) = false := by decide) (he : starEach (e :: es) X.env = (false, eval e X.env) :: starEach es X.env := by rfl) (hpl : (backTo pos (starEach es X.env)).any (·.1) = false := by rfl) :
    PE X (.Call (.Name x p) (e :: es) [] pos) (tMake C sp [] E0 t) := by
  obtain ⟨f, fd, M, F, hb, hm⟩ := D.ex
  exact pe_make M F (hr.mono hk) hg hm hb .nil pass0 ha hdb he hpl
theorem putK_new {l : List (Str × Addr)} {r : Str} {a : Addr} (e : valV (hd3 l) (.inr r) = none) : putK (hd3 l) (.inr r) (.ref a) = hd3 (l ++ [(r, a)]) := by
  unfold putK
  rw [valV_any, e]
  show hd3 l ++ [(Sum.inr r, V.ref a)] = _
  unfold hd3
  rw [List.map_append]
  rfl
theorem Db3.mvs {c : Cs} {CW : Addr} {H H' : Hp} {F F' : Addr → Prop} {S : S3} (h : Db3 c CW H F S) (k : ∀ x o, F x → H x = some o → H' x = some o) (s : ∀ x, F x → F' x) : Db3 c CW H' F' S :=
  ⟨h.db.mv k s, fun y hy => ⟨k _ _ (h.np y hy).2 (h.np y hy).1, s _ (h.np y hy).2⟩, fun P e => (h.tr P e).mv k s⟩
theorem ofR_one (l : List Wr) (x : Wr) (z : Str) : ofR (l ++ [x]) z = if x.r = z then ofR l z ++ [x] else ofR l z := by
  rw [ofR_app]
  unfold ofR
  by_cases e : x.r = z
  · simp [e]
  · simp [e]
theorem see_own (own kept : List Wr) (x : Wr) (z : Str) : (((ofR (own ++ [x]) z).getLast?).or (findW kept z)).map (·.v) = if z = x.r then some x.v else (((ofR own z).getLast?).or (findW kept z)).map (·.v) := by
  rw [ofR_one]
  by_cases e : x.r = z
  · rw [if_pos e, if_pos e.symm, List.getLast?_concat]
    rfl
  · rw [if_neg e, if_neg fun q => e q.symm]
section
variable {P : Program} {w : World} {K : PySem.W.Frag} {mg : Str → Option Value} {base : Heap} {c : Cs} {CW : Addr}
theorem ok_set3 {f : Addr} {fd : FuncData} (F : Fun K "__setitem__" "Database.__setitem__" s_Database___setitem__ f fd) (B : DbTxt K mg c) (W : WTxt K c CW) (D_is_word : Df P w K mg base 1 "is_word" ["thing"] (spIsWord K)) (P_is_doomed : PDf P w K mg base 3 c.D "is_doomed" (spLook c CW 0 fun _ _ v => v = .bl false))
    (M_has_suspended : MDf P w K mg base CX0 2 c.D "has_suspended" ["self", "record"] [] (spLook c CW 1 fun S us v => ∃ r, us = [.str r] ∧ v = .bl false)) (C_W : CDfA P w K mg base 1 "Write" CW ["self", "record", "value", "holder"] (spWr CW)) : FnOk P w K mg base CX0 5 f fd ["self", "at", "worth"] (spSet3 c CW) := by
  refine F.ok sc_Database___setitem__ (fun vs H Q E h => ?_) (fun cdv A outer s H vs Q E hr h => ?_)
  · obtain ⟨S, F, n, r, v, rfl, _⟩ := h
    rfl
  · obtain ⟨S, F, n, r, v, rfl, hw, hd, sz, hn, k⟩ := h
    have hu := hu_of hr
    refine ⟨_, (pss_cons (ps_if (pt_not (pt_val (pe_df D_is_word hr (by decide) rfl (pa_cons (pv 1) pa_nil))))
  pss_dead
  pss_nil)
  (pss_cons (ps_set (i := 3) sc_Database___setitem__.nd rfl (Or.inl rfl) (pe_fld (pv 0) rfl))
  (pss_cons (ps_if (pt_val (pe_pd P_is_doomed B.cD hr (by decide) (pv 0)))
  pss_dead
  pss_nil)
  (pss_cons (ps_if (pt_val (pe_md M_has_suspended B.cD hr (by decide) (pv 0) (pa_cons (pv 1) pa_nil)))
  pss_dead
  pss_nil)
  (pss_cons (ps_set (i := 4) sc_Database___setitem__.nd rfl (Or.inl rfl) (pe_mkw C_W hr (by decide) rfl (pa_cons (pv 1) (pa_cons (pv 2) (pa_cons (pv 3) pa_nil)))))
  (pss_cons (ps_expr (pe_bm PySem.F.plainAttrs_list PySem.F.slot_list_append PySem.F.type_list_append mt_append (pe_fld (pv 0) rfl) (pa_cons (pv 4) pa_nil)))
  (pss_one (ps_if (pt_cmpR op_isN (pv 3) pe_non (nomark _))
  (pss_cons (ps_fld (pv 4) pe_str rfl)
  (pss_one (ps_dput hu (pe_fld (pv 0) rfl) (pv 1) (pv 4) rfl)))
  (pss_cons (ps_expr (pe_bm PySem.F.plainAttrs_list PySem.F.slot_list_append PySem.F.type_list_append mt_append (pe_fld (pv 3) rfl) (pa_cons (pv 4) pa_nil)))
  (pss_one (ps_expr (pe_bm PySem.F.plainAttrs_list PySem.F.slot_list_append PySem.F.type_list_append mt_append (pe_dsetd (pe_fld (pv 0) rfl) (pv 1) (pe_lst pa_nil) ⟨by rfl, by rfl, by rfl, by rfl⟩) (pa_cons (pv 4) pa_nil))))))))))))), ?_⟩
    refine ⟨_, rfl, _, rfl, .inl ⟨r, rfl, by have := hw.2.1; omega, fun H1 s1 => ⟨_, rfl, ?_⟩⟩⟩
    rw [wB_of hw]
    refine iteF ?_
    have hd1 := hd.same s1
    refine ⟨_, rfl, S.d, c.D, S.p.dx, _, pvO S.pr, rfl, hd1.db.hd, B.cD, B.nP, rfl, ?_⟩
    refine ⟨_, rfl, S.d, S.p.dx, _, rfl, hd1.db.hd, S, F, [], _, rfl, rfl, hd1, sz.up (by omega), rfl, _, rfl, iteF ?_⟩
    refine ⟨_, rfl, S.d, S.p.dx, _, rfl, hd1.db.hd, rfl, _, rfl, S, F, [.str r], _, rfl, rfl, hd1, sz.up (by omega), ⟨r, rfl, rfl⟩, _, rfl, iteF ?_⟩
    refine ⟨_, rfl, _, rfl, _, rfl, fun a dx na nd ne => ⟨a, dx, r, v, pvO S.pr, rfl, upd_same, rfl, ?_⟩⟩
    have ol : ∀ x o, H x = some o → upd (upd (upd H1 dx (.own a)) a (.ins CW dx [])) a (.ins CW dx (wrf r v (pvO S.pr) (.str "open"))) x = some o := fun x o e => by
      have e1 := s1 x o e
      rw [upd_ne (ne_of_none e1 na), upd_ne (ne_of_none e1 na), upd_ne (ne_of_none e1 nd)]
      exact e1
    have fr2 : Fr F (fun x => F x ∨ x = a) H (upd (upd (upd H1 dx (.own a)) a (.ins CW dx [])) a (.ins CW dx (wrf r v (pvO S.pr) (.str "open")))) := ⟨fun x o e _ => ol x o e, fun x h => .inl h, fun x h => h.imp id fun e => by rw [e]; exact s1.free na⟩
    have hd2 : Db3 c CW _ (fun x => F x ∨ x = a) S := hd.mvs (fun x o _ e => ol x o e) fun x h => .inl h
    have wa : WAt CW (upd (upd (upd H1 dx (.own a)) a (.ins CW dx [])) a (.ins CW dx (wrf r v (pvO S.pr) (.str "open")))) (pvO S.pr) ⟨a, r, v⟩ := ⟨dx, "open", upd_same⟩
    have fa : (fun x => F x ∨ x = a) a := .inr rfl
    have an : H a = none := s1.free na
    have ea := (upd_same : upd (upd (upd H1 dx (.own a)) a (.ins CW dx [])) a (.ins CW dx (wrf r v (pvO S.pr) (.str "open"))) a = _)
    generalize upd (upd (upd H1 dx (.own a)) a (.ins CW dx [])) a (.ins CW dx (wrf r v (pvO S.pr) (.str "open"))) = H2 at fr2 hd2 wa ea ol ⊢
    clear s1 na nd hd1
    have hdb := hd2.db
    have htr := hd2.tr
    have hnp := hd2.np
    rcases S with ⟨d, p, made, kept, pre, pr⟩
    have zm : made.length ≤ n := sz.m
    refine ⟨_, rfl, d, c.D, p.dx, _, _, rfl, hdb.hd, B.cD, B.nM, rfl, .inl ⟨rfl, _, SqL.of hdb.hm⟩, _, rfl, p.m, _, _, rfl, rfl, hdb.hm, small1000 (show made.length ≤ 1000 by omega), ?_⟩
    have d3 := hdb.setMade (made ++ [.ref a])
    have fr3 : Fr F (fun x => F x ∨ x = a) H (upd H2 p.m (.lst (made ++ [.ref a]))) := fr2.trans (Fr.at_ hdb.fm)
    have ea3 : upd H2 p.m (.lst (made ++ [.ref a])) a = some (.ins CW dx (wrf r v (pvO pr) (.str "open"))) := by
      rw [upd_ne (ne_kin ea hdb.hm (by simp [kin]))]
      exact ea
    have tt3 : ∀ x xs, H2 x = some (.tup xs) → upd H2 p.m (.lst (made ++ [.ref a])) x = some (.tup xs) := fun x xs e => by
      rw [upd_ne (ne_kin e hdb.hm (by simp [kin]))]
      exact e
    have lm : (made ++ [V.ref a]).length ≤ n + 1 := by rw [List.length_append, List.length_singleton]; omega
    refine ⟨_, rfl, rfl, _, rfl, ?_⟩
    cases pr with
    | none =>
      refine iteT ?_
      refine ⟨_, rfl, a, CW, dx, _, rfl, ea3, W.cW, W.nF, (by show 4 < 1000; decide), ?_⟩
      have d4 := d3.fate (f' := "kept") ea3
      have zk : kept.length + 0 ≤ n := sz.k
      refine ⟨_, rfl, _, rfl, d, c.D, p.dx, _, _, rfl, d4.hd, B.cD, B.nK, rfl, _, rfl, p.k, _, rfl, DPut.k (k := .inr r) d4.hk (small1000 (show (kd kept).length ≤ 1000 by rw [len_kd]; omega)), ?_⟩
      have d5 := d4.setKept (x := ⟨a, r, v⟩) (hv := .non) ⟨dx, "kept", upd_same⟩ fa
      refine k _ (fun x => F x ∨ x = a) ⟨d, p, made ++ [V.ref a], putW kept ⟨a, r, v⟩, pre, none⟩ (fr3.trans ((Fr.at_ fa).trans (Fr.at_ d4.fk))) ⟨d5, fun x hx => ⟨?_, (hnp x hx).2⟩, nofun⟩ rfl ⟨lm, ?_, ?_, Nat.le_refl _⟩ ⟨rfl, fun z => ?_⟩
      · have e := tt3 _ _ (hnp x hx).1
        rw [upd_ne (ne_kin (by rw [upd_ne (ne_kin e ea3 (by simp [kin]))]; exact e) d4.hk (by simp [kin])), upd_ne (ne_kin e ea3 (by simp [kin]))]
        exact e
      · exact Nat.le_succ_of_le sz.b
      · have := len_putW kept ⟨a, r, v⟩
        show (putW kept ⟨a, r, v⟩).length + 0 ≤ n + 1
        omega
      · show (((ofR [] z).getLast?).or (findW (putW kept ⟨a, r, v⟩) z)).map (·.v) = if z = r then some v else (((ofR [] z).getLast?).or (findW kept z)).map (·.v)
        rw [find_putW]
        by_cases e : r = z
        · rw [if_pos e, if_pos e.symm]
          rfl
        · rw [if_neg e, if_neg fun q => e q.symm]
    | some R =>
      refine iteF ?_
      have tr := htr R rfl
      have tr3 : T3 c CW (upd H2 p.m (.lst (made ++ [.ref a]))) (fun x => F x ∨ x = a) p R := tr.off fun x hx => (tr.apart hdb hx).2.2.1
      have zk : kept.length + R.own.length ≤ n := sz.k
      have zh : R.held.length ≤ R.own.length := sz.h
      have ra : (refs R.own).length = R.own.length := List.length_map ..
      refine ⟨_, rfl, R.t, c.T, R.q.dx, _, _, rfl, tr3.ht, B.cT, B.nO, rfl, .inl ⟨rfl, _, SqL.of tr3.ho⟩, _, rfl, R.q.o, _, _, rfl, rfl, tr3.ho, small1000 (show (refs R.own).length ≤ 1000 by omega), ?_⟩
      have d4 := d3.offL (o := .lst (refs R.own ++ [.ref a])) tr3.ho tr3.nob.symm tr3.nom.symm
      refine ⟨_, rfl, d, c.D, p.dx, _, _, rfl, d4.hd, B.cD, B.nH, rfl, p.h, rfl, .inl ⟨_, .inl d4.hh⟩, _, rfl, Nat.zero_le _, fun la nl => ?_⟩
      have nl3 := (none_of nl).2
      have d5 := d4.new (o := .lst []) nl
      have sv : ∀ x o, upd H2 p.m (.lst (made ++ [.ref a])) x = some o → x ≠ R.q.o → upd (upd (upd H2 p.m (.lst (made ++ [.ref a]))) R.q.o (.lst (refs R.own ++ [.ref a]))) la (.lst []) x = some o := fun x o e n1 => by
        rw [upd_ne (ne_of_none e nl3), upd_ne n1]
        exact e
      have refsx : refs R.own ++ [.ref a] = refs (R.own ++ [⟨a, r, v⟩]) := by unfold refs; rw [List.map_append]; rfl
      refine ⟨_, .inr r, d5.hh, rfl, small1000 (by show (hd3 R.held).length ≤ 1000; rw [len_hd3]; omega), fun u eu => ?_, fun eu => ?_⟩
      · rw [valV_hd3] at eu
        obtain ⟨z, ef, rfl⟩ := Option.map_eq_some_iff.mp eu
        have ef : (R.held.find? fun z => decide (z.1 = r)) = some z := ef
        have zm : z ∈ R.held := List.mem_of_find?_eq_some ef
        have zr : z.1 = r := of_decide_eq_true (List.find?_some (p := fun z : Str × Addr => decide (z.1 = r)) ef)
        have nz := tr3.nl z zm
        have h3 := (tr3.hl z zm).1
        rw [zr] at h3
        have h5 := sv _ _ h3 nz.1
        have lo : (refs (ofR R.own r)).length ≤ 1000 := by
          have : (ofR R.own r).length ≤ R.own.length := List.length_filter_le ..
          show ((ofR R.own r).map _).length ≤ 1000
          rw [List.length_map]
          omega
        refine ⟨.inl ⟨rfl, _, SqL.of h5⟩, _, rfl, z.2, _, _, rfl, rfl, h5, small1000 lo, ?_⟩
        have sv2 : ∀ x o, upd H2 p.m (.lst (made ++ [.ref a])) x = some o → x ≠ R.q.o → x ≠ z.2 → upd (upd (upd (upd H2 p.m (.lst (made ++ [.ref a]))) R.q.o (.lst (refs R.own ++ [.ref a]))) la (.lst [])) z.2 (.lst (refs (ofR R.own r) ++ [.ref a])) x = some o := fun x o e n1 n2 => by
          rw [upd_ne n2]
          exact sv x o e n1
        have fr6 := fr3.trans ((Fr.at_ (o := .lst (refs R.own ++ [.ref a])) tr3.fo).trans ((Fr.new (o := .lst []) nl).trans (Fr.at_ (o := .lst (refs (ofR R.own r) ++ [.ref a])) (tr3.fl z zm))))
        refine k _ (fun x => F x ∨ x = a) ⟨d, p, made ++ [V.ref a], kept, pre, some { R with own := R.own ++ [⟨a, r, v⟩] }⟩ fr6 ⟨d5.offL h5 nz.2.2.1.symm nz.2.2.2.symm, fun x hx => ?_, fun R2 e => ?_⟩ rfl ⟨lm, ?_, ?_, ?_⟩ ⟨rfl, fun y => see_own R.own kept ⟨a, r, v⟩ y⟩
        · have e := tt3 _ _ (hnp x hx).1
          exact ⟨sv2 _ _ e (ne_kin e tr3.ho (by simp [kin])) (ne_kin e h3 (by simp [kin])), (hnp x hx).2⟩
        · cases e
          exact {
            ht := sv2 _ _ tr3.ht (ne_kin tr3.ht tr3.ho (by simp [kin])) (ne_kin tr3.ht h3 (by simp [kin]))
            ho := by
              show upd (upd (upd (upd H2 p.m (.lst (made ++ [.ref a]))) R.q.o (.lst (refs R.own ++ [.ref a]))) la (.lst [])) z.2 (.lst (refs (ofR R.own r) ++ [.ref a])) R.q.o = _
              rw [upd_ne nz.1.symm, upd_ne (ne_of_none upd_same nl), upd_same, refsx]
            hs := sv2 _ _ tr3.hs tr3.nos.symm nz.2.1.symm
            hw := fun x hx => by
              rcases List.mem_append.mp hx with hx | hx
              · obtain ⟨dx2, f2, e⟩ := tr3.hw x hx
                exact ⟨dx2, f2, sv2 _ _ e (ne_kin e tr3.ho (by simp [kin])) (ne_kin e h3 (by simp [kin]))⟩
              · rw [List.mem_singleton.mp hx]
                exact ⟨dx, "open", sv2 _ _ ea3 (ne_kin ea3 tr3.ho (by simp [kin])) (ne_kin ea3 h3 (by simp [kin]))⟩
            hl := fun y hy => by
              have g := tr3.hl y hy
              show _ = some (HO.lst (refs (ofR (R.own ++ [⟨a, r, v⟩]) y.1))) ∧ ofR (R.own ++ [⟨a, r, v⟩]) y.1 ≠ []
              rw [ofR_one]
              by_cases q : r = y.1
              · have yz : y = z := tr3.one y hy z zm (.inl (by rw [← q, zr]))
                rw [if_pos q, ← q]
                refine ⟨?_, by simp⟩
                rw [yz, upd_same]
                unfold refs
                rw [List.map_append]
                rfl
              · rw [if_neg q]
                refine ⟨sv2 _ _ g.1 (tr3.nl y hy).1 fun e => q ?_, g.2⟩
                rw [tr3.one y hy z zm (.inr e), zr]
            all := fun x hx => by
              rcases List.mem_append.mp hx with hx | hx
              · exact tr3.all x hx
              · rw [List.mem_singleton.mp hx]
                exact ⟨z, zm, zr⟩
            one := tr3.one
            nos := tr3.nos
            nob := tr3.nob
            nom := tr3.nom
            nsb := tr3.nsb
            nsm := tr3.nsm
            nl := tr3.nl
            he := sv2 _ _ tr3.he (ne_kin tr3.he tr3.ho (by simp [kin])) (ne_kin tr3.he h3 (by simp [kin]))
            hd := fun y hy => sv2 _ _ (tr3.hd y hy) (ne_kin (tr3.hd y hy) tr3.ho (by simp [kin])) (ne_kin (tr3.hd y hy) h3 (by simp [kin]))
            ft := tr3.ft
            fo := tr3.fo
            fs := tr3.fs
            fe := tr3.fe
            fw := fun x hx => by
              rcases List.mem_append.mp hx with hx | hx
              · exact tr3.fw x hx
              · rw [List.mem_singleton.mp hx]
                exact .inr rfl
            fl := tr3.fl
            fd := tr3.fd }
        · exact Nat.le_succ_of_le sz.b
        · show kept.length + (R.own ++ [(⟨a, r, v⟩ : Wr)]).length ≤ n + 1
          rw [List.length_append, List.length_singleton]
          omega
        · show R.held.length ≤ (R.own ++ [(⟨a, r, v⟩ : Wr)]).length
          rw [List.length_append, List.length_singleton]
          omega
      · have eu : valV (hd3 R.held) (.inr r) = none := eu
        rw [show putK (hd3 (heO (some R))) (.inr r) (.ref la) = hd3 (R.held ++ [(r, la)]) from putK_new eu]
        rw [valV_hd3, Option.map_eq_none_iff, List.find?_eq_none] at eu
        have nr : ∀ z ∈ R.held, z.1 ≠ r := fun z hz q => eu z hz (decide_eq_true q)
        have on : ofR R.own r = [] := List.filter_eq_nil_iff.mpr fun x hx q => by
          obtain ⟨z, hz, e⟩ := tr3.all x hx
          exact nr z hz (e.trans (of_decide_eq_true q))
        have d6 := d5.setHeld (R.held ++ [(r, la)])
        have h6 : upd (upd (upd (upd H2 p.m (.lst (made ++ [.ref a]))) R.q.o (.lst (refs R.own ++ [.ref a]))) la (.lst [])) p.h (.dK (hd3 (R.held ++ [(r, la)]))) la = some (.lst []) := by
          rw [upd_ne (ne_of_none d4.hh nl).symm, upd_same]
        refine ⟨.inl ⟨rfl, _, SqL.of h6⟩, _, rfl, la, _, _, rfl, rfl, h6, small1000 (Nat.zero_le _), ?_⟩
        have sv3 : ∀ x o, upd H2 p.m (.lst (made ++ [.ref a])) x = some o → x ≠ R.q.o → x ≠ p.h → upd (upd (upd (upd (upd H2 p.m (.lst (made ++ [.ref a]))) R.q.o (.lst (refs R.own ++ [.ref a]))) la (.lst [])) p.h (.dK (hd3 (R.held ++ [(r, la)])))) la (.lst ([] ++ [.ref a])) x = some o := fun x o e n1 n2 => by
          rw [upd_ne (ne_of_none e nl3), upd_ne n2]
          exact sv x o e n1
        have fr6 := fr3.trans ((Fr.at_ (o := .lst (refs R.own ++ [.ref a])) tr3.fo).trans ((Fr.add (o := .lst []) nl).trans ((Fr.at_ (o := .dK (hd3 (R.held ++ [(r, la)]))) (F := fun x => (F x ∨ x = a) ∨ x = la) (.inl d4.fh)).trans (Fr.at_ (o := .lst ([] ++ [.ref a])) (F := fun x => (F x ∨ x = a) ∨ x = la) (.inr rfl)))))
        refine k _ (fun x => (F x ∨ x = a) ∨ x = la) ⟨d, p, made ++ [V.ref a], kept, pre, some { R with own := R.own ++ [⟨a, r, v⟩], held := R.held ++ [(r, la)] }⟩ fr6 ⟨(d6.offL h6 (ne_of_none d4.hb nl) (ne_of_none d4.hm nl)).mv (fun x o _ e => e) fun x h => .inl h, fun x hx => ?_, fun R2 e => ?_⟩ rfl ⟨lm, ?_, ?_, ?_⟩ ⟨rfl, fun y => see_own R.own kept ⟨a, r, v⟩ y⟩
        · have e := tt3 _ _ (hnp x hx).1
          exact ⟨sv3 _ _ e (ne_kin e tr3.ho (by simp [kin])) (ne_kin e d3.hh (by simp [kin])), .inl (hnp x hx).2⟩
        · cases e
          exact {
            ht := sv3 _ _ tr3.ht (ne_kin tr3.ht tr3.ho (by simp [kin])) (ne_kin tr3.ht d3.hh (by simp [kin]))
            ho := by
              show upd (upd (upd (upd (upd H2 p.m (.lst (made ++ [.ref a]))) R.q.o (.lst (refs R.own ++ [.ref a]))) la (.lst [])) p.h (.dK (hd3 (R.held ++ [(r, la)])))) la (.lst ([] ++ [.ref a])) R.q.o = _
              rw [upd_ne (ne_of_none upd_same nl), upd_ne (ne_kin tr3.ho d3.hh (by simp [kin])), upd_ne (ne_of_none upd_same nl), upd_same, refsx]
            hs := sv3 _ _ tr3.hs tr3.nos.symm (ne_kin tr3.hs d3.hh (by simp [kin]))
            hw := fun x hx => by
              rcases List.mem_append.mp hx with hx | hx
              · obtain ⟨dx2, f2, e⟩ := tr3.hw x hx
                exact ⟨dx2, f2, sv3 _ _ e (ne_kin e tr3.ho (by simp [kin])) (ne_kin e d3.hh (by simp [kin]))⟩
              · rw [List.mem_singleton.mp hx]
                exact ⟨dx, "open", sv3 _ _ ea3 (ne_kin ea3 tr3.ho (by simp [kin])) (ne_kin ea3 d3.hh (by simp [kin]))⟩
            hl := fun y hy => by
              show _ = some (HO.lst (refs (ofR (R.own ++ [⟨a, r, v⟩]) y.1))) ∧ ofR (R.own ++ [⟨a, r, v⟩]) y.1 ≠ []
              rw [ofR_one]
              rcases List.mem_append.mp hy with hy | hy
              · have g := tr3.hl y hy
                rw [if_neg fun q => nr y hy q.symm]
                exact ⟨sv3 _ _ g.1 (tr3.nl y hy).1 (ne_kin g.1 d3.hh (by simp [kin])), g.2⟩
              · rw [List.mem_singleton.mp hy, if_pos rfl]
                refine ⟨?_, by simp⟩
                rw [upd_same, on]
                rfl
            all := fun x hx => by
              rcases List.mem_append.mp hx with hx | hx
              · obtain ⟨z, hz, e⟩ := tr3.all x hx
                exact ⟨z, List.mem_append_left _ hz, e⟩
              · rw [List.mem_singleton.mp hx]
                exact ⟨(r, la), List.mem_append_right _ (List.mem_singleton.mpr rfl), rfl⟩
            one := fun y hy z hz e => by
              have far : ∀ z ∈ R.held, z.2 ≠ la := fun z hz => ne_of_none (tr3.hl z hz).1 nl3
              rcases List.mem_append.mp hy with hy | hy
              · rcases List.mem_append.mp hz with hz | hz
                · exact tr3.one y hy z hz e
                · rw [List.mem_singleton.mp hz] at e
                  exact (e.elim (fun q => nr y hy q) fun q => far y hy q).elim
              · rcases List.mem_append.mp hz with hz | hz
                · rw [List.mem_singleton.mp hy] at e
                  exact (e.elim (fun q => nr z hz q.symm) fun q => far z hz q.symm).elim
                · rw [List.mem_singleton.mp hy, List.mem_singleton.mp hz]
            nos := tr3.nos
            nob := tr3.nob
            nom := tr3.nom
            nsb := tr3.nsb
            nsm := tr3.nsm
            nl := fun y hy => by
              rcases List.mem_append.mp hy with hy | hy
              · exact tr3.nl y hy
              · rw [List.mem_singleton.mp hy]
                exact ⟨(ne_of_none tr3.ho nl3).symm, (ne_of_none tr3.hs nl3).symm, (ne_of_none d3.hb nl3).symm, (ne_of_none d3.hm nl3).symm⟩
            he := sv3 _ _ tr3.he (ne_kin tr3.he tr3.ho (by simp [kin])) (ne_kin tr3.he d3.hh (by simp [kin]))
            hd := fun y hy => sv3 _ _ (tr3.hd y hy) (ne_kin (tr3.hd y hy) tr3.ho (by simp [kin])) (ne_kin (tr3.hd y hy) d3.hh (by simp [kin]))
            ft := .inl tr3.ft
            fo := .inl tr3.fo
            fs := .inl tr3.fs
            fe := .inl tr3.fe
            fw := fun x hx => by
              rcases List.mem_append.mp hx with hx | hx
              · exact .inl (tr3.fw x hx)
              · rw [List.mem_singleton.mp hx]
                exact .inl (.inr rfl)
            fl := fun y hy => by
              rcases List.mem_append.mp hy with hy | hy
              · exact .inl (tr3.fl y hy)
              · rw [List.mem_singleton.mp hy]
                exact .inr rfl
            fd := fun y hy => .inl (tr3.fd y hy) }
        · exact Nat.le_succ_of_le sz.b
        · show kept.length + (R.own ++ [(⟨a, r, v⟩ : Wr)]).length ≤ n + 1
          rw [List.length_append, List.length_singleton]
          omega
        · show (R.held ++ [(r, la)]).length ≤ (R.own ++ [(⟨a, r, v⟩ : Wr)]).length
          rw [List.length_append, List.length_singleton, List.length_append, List.length_singleton]
          omega
end
end IC
namespace IC
open PySem L2 TL
abbrev fsB (v : V) : List (Str × V) := [("word", v)]
abbrev fsR (v : V) : List (Str × V) := [("record", v)]
/-- no word: another kind of thing, or a text that is none -/
def NoW (K : PySem.W.Frag) (H : Hp) (v : V) : Prop := (∃ z : Str, v = .str z ∧ (tl z).length ≤ 1000 ∧ wB z = false) ∨ Oth K H v
theorem NoW.mv {K : PySem.W.Frag} {H H' : Hp} {v : V} (h : NoW K H v) (s : Same H H') : NoW K H' v := by
  rcases h with h | h
  · exact .inl h
  · exact .inr (h.mv s)
/-- db[v] -/
def spAt3 (K : PySem.W.Frag) (c : Cs) (CW EB EN : Addr) : Sp := fun vs H Q E => ∃ (S : S3) (F : Addr → Prop) (v : V), vs = [.ref S.d, v] ∧ Db3 c CW H F S ∧ Sz S 1000 ∧
  ((∃ r, v = .str r ∧ IsW r ∧ (∀ x, S.see r = some x → ∀ H', Same H H' → Q x.v H') ∧ (S.see r = none → ErrQ EN (fsR (.str r)) H E)) ∨ (NoW K H v ∧ ErrQ EB (fsB v) H E))
/-- v in db -/
def spIn3 (K : PySem.W.Frag) (c : Cs) (CW : Addr) : Sp := fun vs H Q _ => ∃ (S : S3) (F : Addr → Prop) (v : V), vs = [.ref S.d, v] ∧ Db3 c CW H F S ∧ Sz S 1000 ∧
  ((∃ r, v = .str r ∧ IsW r ∧ ∀ H', Same H H' → Q (.bl (S.see r).isSome) H') ∨ (NoW K H v ∧ ∀ H', Same H H' → Q (.bl false) H'))
section
variable {P : Program} {w : World} {K : PySem.W.Frag} {mg : Str → Option Value} {base : Heap} {c : Cs} {CW EB EN : Addr}
theorem ok_badword {f C : Addr} {fd : FuncData} (F : Fun K "__init__" "BadWord.__init__" s_BadWord___init__ f fd) (O : OexC K C) (n1 : PySem.W.findIn K (.ref C) "word" = some none) : FnOk P w K mg base CX0 1 f fd ["self", "word"] (spErr C fsB) := by
  refine F.ok sc_BadWord___init__ (fun vs H Q E h => ?_) (fun cdv A outer s H vs Q E hr h => ?_)
  · obtain ⟨a, v, rfl, _⟩ := h
    rfl
  · obtain ⟨a, v, rfl, ea, k⟩ := h
    refine ⟨_, (pss_one (ps_ost (pv 0) (pv 1))), ?_⟩
    refine ⟨_, rfl, _, rfl, a, C, rfl, O, n1, .inl ⟨ea, fun d nd ne => ?_⟩⟩
    exact k d _ nd ne upd_same (by rw [upd_ne ne, upd_same]) (fun b h1 h2 => by rw [upd_ne h1, upd_ne h2])
theorem ok_norecord {f C : Addr} {fd : FuncData} (F : Fun K "__init__" "NoRecord.__init__" s_NoRecord___init__ f fd) (O : OexC K C) (n1 : PySem.W.findIn K (.ref C) "record" = some none) : FnOk P w K mg base CX0 1 f fd ["self", "record"] (spErr C fsR) := by
  refine F.ok sc_NoRecord___init__ (fun vs H Q E h => ?_) (fun cdv A outer s H vs Q E hr h => ?_)
  · obtain ⟨a, v, rfl, _⟩ := h
    rfl
  · obtain ⟨a, v, rfl, ea, k⟩ := h
    refine ⟨_, (pss_one (ps_ost (pv 0) (pv 1))), ?_⟩
    refine ⟨_, rfl, _, rfl, a, C, rfl, O, n1, .inl ⟨ea, fun d nd ne => ?_⟩⟩
    exact k d _ nd ne upd_same (by rw [upd_ne ne, upd_same]) (fun b h1 h2 => by rw [upd_ne h1, upd_ne h2])
theorem see_wr {H : Hp} {F : Addr → Prop} {S : S3} (h : Db3 c CW H F S) {r : Str} {x : Wr} (e : S.see r = some x) : ∃ hv, WAt CW H hv x := by
  unfold S3.see at e
  rw [Option.or_eq_some_iff] at e
  rcases e with e | ⟨_, e⟩
  · have m := List.mem_of_getLast? e
    have m := (List.mem_filter.mp m).1
    cases hp : S.pr with
    | none =>
      rw [hp] at m
      cases m
    | some R =>
      rw [hp] at m
      exact ⟨_, (h.tr R hp).hw x m⟩
  · exact h.db.hw x (List.mem_of_find?_eq_some e)
theorem ok_at3 {f : Addr} {fd : FuncData} (F : Fun K "__getitem__" "Database.__getitem__" s_Database___getitem__ f fd) (B : DbTxt K mg c) (W : WTxt K c CW) (D_is_word : Df P w K mg base 1 "is_word" ["thing"] (spIsWord K))
    (M_seen : MDf P w K mg base CX0 3 c.D "_seen" ["self", "record"] [] (spLook c CW 1 fun S us v => ∃ r, us = [.str r] ∧ v = seeV S r)) (E_B : EDf P w K mg base 1 "BadWord" EB "word" fsB) (kB : PySem.W.keepIn K (.ref EB) = true) (E_N : EDf P w K mg base 1 "NoRecord" EN "record" fsR) (kN : PySem.W.keepIn K (.ref EN) = true) :
    FnOk P w K mg base (L2.CX P w) 4 f fd ["self", "at"] (spAt3 K c CW EB EN) := by
  refine F.okX sc_Database___getitem__ (fun vs H Q E h => ?_) (fun cdv A outer s H vs Q E hr h => ?_)
  · obtain ⟨S, F, v, rfl, _⟩ := h
    rfl
  · obtain ⟨S, F, v, rfl, hd, sz, k⟩ := h
    refine ⟨_, (pss_cons (ps_if (pt_not (pt_val (pe_df D_is_word hr (by decide) rfl (pa_cons (pv 1) pa_nil))))
  (pss_one (ps_raise rfl (takes_of rfl rfl rfl rfl) (pmk_ed E_B kB hr (by decide) rfl (pa_cons (pv 1) pa_nil))))
  pss_nil)
  (pss_cons (ps_set (i := 2) sc_Database___getitem__.nd rfl (Or.inl rfl) (pe_md M_seen B.cD hr (by decide) (pv 0) (pa_cons (pv 1) pa_nil)))
  (pss_cons (ps_if (pt_cmpR op_isN (pv 2) pe_non (nomark _))
  (pss_one (ps_raise rfl (takes_of rfl rfl rfl rfl) (pmk_ed E_N kN hr (by decide) rfl (pa_cons (pv 1) pa_nil))))
  pss_nil)
  (pss_one (ps_ret (pe_fld (pv 2) rfl)))))), ?_⟩
    rcases k with ⟨r, rfl, hw, k1, k2⟩ | ⟨nw, k⟩
    · refine ⟨_, rfl, _, rfl, .inl ⟨r, rfl, by have := hw.2.1; omega, fun H1 s1 => ⟨_, rfl, ?_⟩⟩⟩
      rw [wB_of hw]
      refine iteF ?_
      have hd1 := hd.same s1
      refine ⟨_, rfl, S.d, S.p.dx, _, rfl, hd1.db.hd, rfl, _, rfl, S, F, [.str r], _, rfl, rfl, hd1, sz, ⟨r, rfl, rfl⟩, ?_⟩
      cases e : S.see r with
      | none =>
        have e2 : seeV S r = .non := by unfold seeV; rw [e]
        rw [e2]
        exact ⟨_, rfl, rfl, _, rfl, iteT ⟨_, rfl, mke _ rfl fun x hx => k2 e x _ (s1.trans (Same.new hx)) upd_same⟩⟩
      | some x =>
        have e2 : seeV S r = .ref x.a := by unfold seeV; rw [e]
        rw [e2]
        obtain ⟨hv, dx, ft, ew⟩ := see_wr hd1 e
        exact ⟨_, rfl, rfl, _, rfl, iteF ⟨_, rfl, x.a, CW, dx, _, _, rfl, ew, W.cW, W.nV, rfl, k1 x e H1 s1⟩⟩
    · refine ⟨_, rfl, _, rfl, ?_⟩
      rcases nw with ⟨z, rfl, hl, hz⟩ | ot
      · refine .inl ⟨z, rfl, hl, fun H1 s1 => ⟨_, rfl, ?_⟩⟩
        rw [hz]
        exact iteT ⟨_, rfl, mke _ rfl fun x hx => k x _ (s1.trans (Same.new hx)) upd_same⟩
      · exact .inr ⟨ot, fun H1 s1 => ⟨_, rfl, iteT ⟨_, rfl, mke _ rfl fun x hx => k x _ (s1.trans (Same.new hx)) upd_same⟩⟩⟩
theorem ok_in3 {f : Addr} {fd : FuncData} (F : Fun K "__contains__" "Database.__contains__" s_Database___contains__ f fd) (B : DbTxt K mg c) (D_is_word : Df P w K mg base 1 "is_word" ["thing"] (spIsWord K))
    (M_seen : MDf P w K mg base CX0 3 c.D "_seen" ["self", "record"] [] (spLook c CW 1 fun S us v => ∃ r, us = [.str r] ∧ v = seeV S r)) : FnOk P w K mg base CX0 4 f fd ["self", "x"] (spIn3 K c CW) := by
  refine F.ok sc_Database___contains__ (fun vs H Q E h => ?_) (fun cdv A outer s H vs Q E hr h => ?_)
  · obtain ⟨S, F, v, rfl, _⟩ := h
    rfl
  · obtain ⟨S, F, v, rfl, hd, sz, k⟩ := h
    refine ⟨_, (pss_one (ps_ret (pe_and (pe_df D_is_word hr (by decide) rfl (pa_cons (pv 1) pa_nil)) (pe_one (pe_cmpR op_notN (pe_md M_seen B.cD hr (by decide) (pv 0) (pa_cons (pv 1) pa_nil)) pe_non (nomark _)))))), ?_⟩
    rcases k with ⟨r, rfl, hw, k⟩ | ⟨nw, k⟩
    · refine ⟨_, rfl, _, rfl, .inl ⟨r, rfl, by have := hw.2.1; omega, fun H1 s1 => ⟨_, rfl, ?_⟩⟩⟩
      rw [wB_of hw]
      have hd1 := hd.same s1
      refine iteT ⟨_, rfl, S.d, S.p.dx, _, rfl, hd1.db.hd, rfl, _, rfl, S, F, [.str r], _, rfl, rfl, hd1, sz, ⟨r, rfl, rfl⟩, rfl, ?_⟩
      cases e : S.see r with
      | none =>
        have e2 : seeV S r = .non := by unfold seeV; rw [e]
        have := k H1 s1
        rw [e] at this
        rw [e2]
        exact this
      | some x =>
        have e2 : seeV S r = .ref x.a := by unfold seeV; rw [e]
        have := k H1 s1
        rw [e] at this
        rw [e2]
        exact this
    · refine ⟨_, rfl, ?_⟩
      rcases nw with ⟨z, rfl, hl, hz⟩ | ot
      · refine ⟨_, rfl, .inl ⟨z, rfl, hl, fun H1 s1 => ⟨_, rfl, ?_⟩⟩⟩
        rw [hz]
        exact iteF (k H1 s1)
      · exact ⟨_, rfl, .inr ⟨ot, fun H1 s1 => ⟨_, rfl, iteF (k H1 s1)⟩⟩⟩
end
end IC
namespace IC
open PySem L2 TL
/-- a special method by its class -/
structure SpD (P : Program) (w : World) (K : PySem.W.Frag) (mg : Str → Option Value) (base : Heap) (CX : CXT) (k : Nat) (C : Addr) (m : Str) (sp : Sp) : Prop where
  ex : ∃ g : Addr, PySem.W.findIn K (.ref C) m = some (some (.ref g)) ∧ PySem.W.isFn K (.ref g) = true ∧ PySem.W.fnIn K g = true ∧ FnR P w K mg base CX k g sp
section
variable {X : Cx} {C : Addr} {k j : Nat} {sp : Sp}
theorem op_inD (D : SpD X.prog X.w X.K X.mg X.base CX0 k C "__contains__" sp) (hr : Room j X.A) (hk : k ≤ j) : OpR X (compareOp .In) (rInOwn C sp) := by
  obtain ⟨g, h1, h2, _, F⟩ := D.ex
  exact op_inOwn h1 h2 F (hr.mono hk)
theorem set_D (D : SpD X.prog X.w X.K X.mg X.base CX0 k C "__setitem__" sp) (hq : PySem.W.noSeq X.K C = true) (hr : Room j X.A) (hk : k ≤ j) : PSet X (rSetOwn C sp) := by
  obtain ⟨g, h1, h2, _, F⟩ := D.ex
  exact set_own hq h1 h2 F (hr.mono hk)
theorem pe_ixD {W : WX} {a b : Expr} {ta tb : TE} {pos : Pos} (D : SpD X.prog X.w X.K X.mg X.base (L2.CX X.prog X.w) k C "__getitem__" sp) (hr : Room j X.A) (hk : k + 1 ≤ j) (tk : Takes X W) (ha : PE X a ta) (hb : PE X b tb)
    (hs : ∀ x i, subscripted b true (.ref x) i = runValue (.builtin "lifetime.subscript" ⟨[.ref x, i], []⟩) := by intro _ _; with_unfolding_all rfl) : PE X (.Subscript a b pos) (tIxOwn C sp (WE W) ta tb) := by
  obtain ⟨g, h1, h2, h3, F⟩ := D.ex
  exact pe_ixOwn h1 h2 h3 F (hr.mono hk) tk ha hb hs
end
structure L3 (K : PySem.W.Frag) (mg : Str → Option Value) (EB EN : Addr) : Prop where
  gB : mg "BadWord" = some (.ref EB)
  gN : mg "NoRecord" = some (.ref EN)
  xB : XfC K EB
  xN : XfC K EN
  nB : PySem.W.findIn K (.ref EB) "word" = some none
  nN : PySem.W.findIn K (.ref EN) "record" = some none
  bb : PySem.W.exmOne K (.ref EB) (.ref EB) = some true
  nn : PySem.W.exmOne K (.ref EN) (.ref EN) = some true
/-- what is to be seen: nothing, or one number -/
def dueL : Option V → List V
  | none => []
  | some v => [v]
def spSeen3 (c : Cs) (CW : Addr) : Sp := fun vs H Q _ => ∃ (S : S3) (F : Addr → Prop) (r : Str) (du : Addr), vs = [.ref S.d, .str r, .ref du] ∧ IsW r ∧ Db3 c CW H F S ∧ Sz S 1000 ∧ H du = some (.lst (dueL ((S.see r).map (·.v)))) ∧ (∀ x, S.see r = some x → ∃ i, x.v = .int i) ∧ ∀ H', Same H H' → Q (.bl true) H'
/-- a thing that is data and equal to itself, whatever comes after -/
def spOdd3 (K : PySem.W.Frag) (c : Cs) (CW : Addr) : Sp := fun vs H Q _ => ∃ (S : S3) (F : Addr → Prop) (v : V) (d : PyData), vs = [.ref S.d, v] ∧ Db3 c CW H F S ∧ Sz S 1000 ∧ NoW K H v ∧ (∀ H', Same H H' → Dp K H' v d) ∧ SeqAt.shaped d = true ∧ PyData.eqv d d = true ∧ ∀ H', Same H H' → Q (.bl true) H'
section
variable {P : Program} {w : World} {K : PySem.W.Frag} {mg : Str → Option Value} {base : Heap} {c : Cs} {CW EB EN : Addr}
theorem exm_pair {S C : Addr} {b : Bool} (h1 : PySem.W.subIn K (.ref C) (.type "BaseException") = some true) (h2 : PySem.W.isClsIn K C = true) (h3 : PySem.W.typeIn K (.ref C) = some (.type "type")) (h4 : PySem.W.subIn K (.ref S) (.ref C) = some b) :
    PySem.W.exmOne K (.ref S) (.ref C) = some b := by
  have z1 : (PySem.W.subIn K (.ref C) (.type "BaseException") == some true) = true := by rw [h1] <;> rfl
  have z2 : ((PySem.W.clsIn K C).isSome && PySem.W.typeIn K (.ref C) == some (.type "type")) = true := by
    rw [show (PySem.W.clsIn K C).isSome = true from h2, h3] <;> rfl
  unfold PySem.W.exmOne
  rw [if_pos z1]
  unfold PySem.W.kitCls
  exact Eq.trans (if_pos z2) h4
theorem ok_law_seen {f : Addr} {fd : FuncData} (F : Fun K "_law_seen" "_law_seen" s_law_seen f fd) (T : Bn mg) (B : DbTxt K mg c) (L : L3 K mg EB EN) (C_in : SpD P w K mg base CX0 4 c.D "__contains__" (spIn3 K c CW)) (C_at : SpD P w K mg base (L2.CX P w) 4 c.D "__getitem__" (spAt3 K c CW EB EN)) :
    FnOk P w K mg base CX0 6 f fd ["db", "record", "due"] (spSeen3 c CW) := by
  refine F.ok sc_law_seen (fun vs H Q E h => ?_) (fun cdv A outer s H vs Q E hr h => ?_)
  · obtain ⟨S, F, r, du, rfl, _⟩ := h
    rfl
  · obtain ⟨S, F, r, du, rfl, hw, hd, sz, hdu, hi, k⟩ := h
    refine ⟨_, (pss_cons (ps_if (pt_cmpR op_ne (pe_cmpR (op_inD C_in hr (by decide)) (pv 1) (pv 0) (by rfl)) (pe_cmpR (op_neD hr.units) (pv 2) (pe_lst pa_nil) (nomark _)) (nomark _)) (pss_one (ps_ret pe_bl)) pss_nil)
      (pss_cons (ps_try_cl rfl rfl sc_law_seen.nd takes0 (fun W pn xe tk _ => (pss_one (ps_set (i := 3) sc_law_seen.nd rfl (Or.inl rfl) (pe_ixD C_at hr (by decide) tk (pv 0) (pv 1)))))
        (.nm (i := 4) rfl rfl ⟨rfl, by decide, .inl L.gN⟩ (fun a oe cls d pn hz hf => pss_one (ps_ret (pe_and (pe_cmpR (show OpR _ _ (rEqD K) from op_eqD hr.units) (pv 2) (pe_lst pa_nil) (nomark _)) (pe_one (pe_cmpR op_eq (pe_xf L.xN L.nN hz hf (pv 4)) (pv 1) (nomark _)))))) .nil))
      (pss_one (ps_ret (pe_and (pe_cmpR (op_eqD hr.units) (pv 2) (pe_lst (pa_cons (pv 3) pa_nil)) (nomark _))
        (pe_and (pe_callB call_isi (by rfl) T.isi PyProof.Rows.boot_isinstance (pa_cons (pv 3) (pa_cons (pe_bltn (v := .ty "int") (by rfl) T.int (by decide +kernel) rfl) pa_nil)))
          (pe_one (pe_not (pe_callB call_isi (by rfl) T.isi PyProof.Rows.boot_isinstance (pa_cons (pv 3) (pa_cons (pe_bltn (v := .ty "bool") (by rfl) T.bool (by decide +kernel) rfl) pa_nil))))))))))), ?_⟩
    refine ⟨_, rfl, _, rfl, S.d, S.p.dx, _, rfl, hd.db.hd, S, F, .str r, rfl, hd, sz, .inl ⟨r, rfl, hw, fun H1 s1 => ⟨_, rfl, ?_⟩⟩⟩
    have hd1 := hd.same s1
    have hdu1 := s1 _ _ hdu
    have dd : ∀ ov : Option V, (∀ v, ov = some v → ∃ i, v = .int i) → ∃ ds : List PyData, (∀ H', DpAll K H' (dueL ov) ds) ∧ SeqAt.shaped (.list ds) = true ∧ (!PyData.eqv (.list ds) (.list [])) = ov.isSome := fun ov h => by
      cases ov with
      | none => exact ⟨[], fun _ => .nil, rfl, rfl⟩
      | some v =>
        obtain ⟨i, rfl⟩ := h v rfl
        exact ⟨[.int i], fun _ => .cons (.int i) .nil, rfl, rfl⟩
    obtain ⟨ds, da, sh, ne⟩ := dd ((S.see r).map (·.v)) fun v hv => by
      obtain ⟨x, hx, rfl⟩ := Option.map_eq_some_iff.mp hv
      exact hi x hx
    refine ⟨_, rfl, Nat.zero_le _, fun q nq => ⟨.list ds, .list [], .lst (SqL.of ((Same.new nq) _ _ hdu1)) (da _), .lst (SqL.of upd_same) .nil, sh, rfl, ?_⟩⟩
    rw [ne, Option.isSome_map]
    have s2 := s1.trans (Same.new (o := .lst []) nq)
    refine ⟨rfl, _, rfl, ?_⟩
    rw [show (!decide (V.bl (S.see r).isSome = V.bl (S.see r).isSome)) = false from by rw [decide_eq_true rfl]; rfl]
    refine iteF ?_
    have hd2 := hd.same s2
    refine ⟨_, rfl, _, rfl, S.d, S.p.dx, _, rfl, hd2.db.hd, S, F, .str r, rfl, hd2, sz, .inl ⟨r, rfl, hw, fun x ex H3 s3 => ?_, fun ex y H3 s3 hy => ?_⟩⟩
    · have s4 := s2.trans s3
      obtain ⟨i, ei⟩ := hi x ex
      have hdu3 := s4 _ _ hdu
      rw [ex] at hdu3
      rw [ei]
      have hdu3 : H3 du = some (.lst [.int i]) := by rw [hdu3]; show some (HO.lst [x.v]) = _; rw [ei]
      refine ⟨_, rfl, _, rfl, (by show 1 ≤ sizeLine; decide), fun q2 nq2 => ⟨.list [.int i], .list [.int i], .lst (SqL.of ((Same.new nq2) _ _ hdu3)) (.cons (.int i) .nil), .lst (SqL.of upd_same) (.cons (.int i) .nil), rfl, rfl, ?_⟩⟩
      have e1 : PyData.eqv (.list [.int i]) (.list [.int i]) = true := by
        show (decide (i = i) && true) = true
        rw [decide_eq_true rfl]
        rfl
      rw [e1]
      refine ⟨true, rfl, iteT ?_⟩
      refine ⟨_, rfl, .int i, .ty "int", .type "int", .type "int", true, rfl, .ty "int", .base (.int i), kit_ty (by decide +kernel), true, rfl, iteT ?_⟩
      exact ⟨_, rfl, .int i, .ty "bool", .type "int", .type "bool", false, rfl, .ty "bool", .base (.int i), kit_ty (by decide +kernel), false, rfl, k _ (s4.trans (Same.new nq2))⟩
    · refine ⟨true, L.nn, fun _ a ha => ?_, (fun q => nomatch q)⟩
      have s4 := s2.trans s3
      have hdu3 := s4 _ _ hdu
      rw [ex] at hdu3
      refine ⟨_, rfl, Nat.zero_le _, fun q2 nq2 => ⟨.list [], .list [], .lst (SqL.of ((Same.new nq2) _ _ hdu3)) .nil, .lst (SqL.of upd_same) .nil, rfl, rfl, true, rfl, iteT ?_⟩⟩
      refine ⟨_, rfl, rfl, rfl, y, _, .str r, rfl, (Same.new nq2) _ _ hy, rfl, _, rfl, rfl, ?_⟩
      rw [decide_eq_true rfl]
      exact k _ (s4.trans (Same.new nq2))
theorem ok_law_odd {f : Addr} {fd : FuncData} (F : Fun K "_law_odd" "_law_odd" s_law_odd f fd) (T : Bn mg) (B : DbTxt K mg c) (L : L3 K mg EB EN) (C_in : SpD P w K mg base CX0 4 c.D "__contains__" (spIn3 K c CW)) (C_at : SpD P w K mg base (L2.CX P w) 4 c.D "__getitem__" (spAt3 K c CW EB EN)) :
    FnOk P w K mg base CX0 6 f fd ["db", "thing"] (spOdd3 K c CW) := by
  refine F.ok sc_law_odd (fun vs H Q E h => ?_) (fun cdv A outer s H vs Q E hr h => ?_)
  · obtain ⟨S, F, v, d, rfl, _⟩ := h
    rfl
  · obtain ⟨S, F, v, d, rfl, hd, sz, nw, dp, sh, ev, k⟩ := h
    refine ⟨_, (pss_cons (ps_if (pt_cmpR (op_inD C_in hr (by decide)) (pv 1) (pv 0) (by rfl)) (pss_one (ps_ret pe_bl)) pss_nil)
      (pss_cons (ps_try_cl rfl rfl sc_law_odd.nd takes0 (fun W pn xe tk _ => (pss_one (ps_set (i := 2) sc_law_odd.nd rfl (Or.inl rfl) (pe_ixD C_at hr (by decide) tk (pv 0) (pv 1)))))
        (.nm (i := 3) rfl rfl ⟨rfl, by decide, .inl L.gB⟩ (fun a oe cls d pn hz hf => pss_one (ps_ret (pe_cmpR (show OpR _ _ (rEqD K) from op_eqD hr.units) (pe_xf L.xB L.nB hz hf (pv 3)) (pv 1) (nomark _)))) .nil))
      (pss_one ps_dead))), ?_⟩
    refine ⟨_, rfl, _, rfl, S.d, S.p.dx, _, rfl, hd.db.hd, S, F, v, rfl, hd, sz, .inr ⟨nw, fun H1 s1 => ⟨_, rfl, _, rfl, iteF ?_⟩⟩⟩
    have hd1 := hd.same s1
    refine ⟨_, rfl, _, rfl, S.d, S.p.dx, _, rfl, hd1.db.hd, S, F, v, rfl, hd1, sz, .inr ⟨nw.mv s1, fun y H3 s3 hy => ?_⟩⟩
    refine ⟨true, L.bb, fun _ a ha => ?_, (fun q => nomatch q)⟩
    have s4 := s1.trans s3
    refine ⟨_, rfl, rfl, rfl, y, _, v, rfl, hy, rfl, _, rfl, d, d, dp _ s4, dp _ s4, sh, sh, ?_⟩
    rw [ev]
    exact k _ s4
end
end IC
namespace IC
open PySem L2 TL
/-! ### the law's own dict of values -/
def VOk (kvs : List (Key × V)) : Prop := ∀ p ∈ kvs, ∃ (r : Str) (i : Int), p = (Sum.inr r, V.int i) ∧ IsW r
def Agree (S : S3) (kvs : List (Key × V)) : Prop := ∀ r, (S.see r).map (·.v) = valV kvs (.inr r)
theorem mem_putK {kvs : List (Key × V)} {k : Key} {v : V} {p : Key × V} (h : p ∈ putK kvs k v) : p ∈ kvs ∨ p = (k, v) := by
  unfold putK at h
  split at h
  · rcases List.mem_map.mp h with ⟨z, hz, e⟩
    split at e
    · rename_i q
      exact .inr (by rw [← e, q])
    · exact .inl (e ▸ hz)
  · rcases List.mem_append.mp h with h | h
    · exact .inl h
    · exact .inr (List.mem_singleton.mp h)
theorem VOk.put {kvs : List (Key × V)} (h : VOk kvs) {r : Str} {i : Int} (w : IsW r) : VOk (putK kvs (.inr r) (.int i)) := fun p hp => by
  rcases mem_putK hp with q | q
  · exact h p q
  · exact ⟨r, i, q, w⟩
theorem VOk.keys : ∀ {kvs : List (Key × V)}, VOk kvs → ∃ ks : List Str, kvs.map (·.1) = ks.map Sum.inr ∧ ks.length = kvs.length ∧ ∀ z ∈ ks, IsW z
  | [], _ => ⟨[], rfl, rfl, nofun⟩
  | p :: l, h => by
    obtain ⟨r, i, e, w⟩ := h p List.mem_cons_self
    obtain ⟨ks, e1, e2, e3⟩ := VOk.keys (kvs := l) fun q hq => h q (List.mem_cons_of_mem _ hq)
    refine ⟨r :: ks, ?_, by simp [e2], fun z hz => ?_⟩
    · rw [List.map_cons, List.map_cons, e1, e]
    · rcases List.mem_cons.mp hz with q | q
      · exact q ▸ w
      · exact e3 z q
theorem VOk.int {kvs : List (Key × V)} (h : VOk kvs) {r : Str} {v : V} (e : valV kvs (.inr r) = some v) : ∃ i, v = .int i := by
  unfold valV at e
  obtain ⟨p, hp, rfl⟩ := Option.map_eq_some_iff.mp e
  obtain ⟨r, i, q, _⟩ := h p (List.mem_of_find?_eq_some hp)
  exact ⟨i, by rw [q]⟩
structure DM (c : Cs) (CW : Addr) (H H' : Hp) (F : Addr → Prop) (S : S3) (p va : Addr) (kvs : List (Key × V)) (n : Int) : Prop where
  out : ∀ x o, H x = some o → x ≠ p → H' x = some o
  db : Db3 c CW H' F S
  po : PoolAt H' p n
  hv : H' va = some (.dK kvs)
theorem DM.step {c : Cs} {CW : Addr} {H H1 H2 : Hp} {F : Addr → Prop} {S : S3} {p va : Addr} {kvs : List (Key × V)} {n n' : Int} (h : DM c CW H H1 F S p va kvs n) (k : Kp [p] H1 H2) (po : PoolAt H2 p n') (np : ¬ F p) (nv : va ≠ p) : DM c CW H H2 F S p va kvs n' :=
  ⟨fun x o e q => k x o (h.out x o e q) (by simpa using q), h.db.mv fun x o f e => k x o e (by simpa using fun q => np (by rw [← q]; exact f)), po, k _ _ h.hv (by simpa using nv)⟩
/-- a new thing -/
theorem DM.new {c : Cs} {CW : Addr} {H H1 : Hp} {F : Addr → Prop} {S : S3} {p va a : Addr} {kvs : List (Key × V)} {n : Int} {o : HO} (h : DM c CW H H1 F S p va kvs n) (na : H1 a = none) (np : ¬ F p) (nv : va ≠ p) : DM c CW H (upd H1 a o) F S p va kvs n :=
  h.step (Kp.new na) (h.po.mv fun u e => by rw [upd_ne (ne_of_none e na)]; exact e) np nv
theorem PoolAt.ne {H : Hp} {p a : Addr} {n : Int} (h : PoolAt H p n) (na : H a = none) : a ≠ p := by
  obtain ⟨x, y, z, e, _⟩ := h
  exact (ne_of_none e na).symm
theorem DM.free {c : Cs} {CW : Addr} {H H1 : Hp} {F : Addr → Prop} {S : S3} {p va a : Addr} {kvs : List (Key × V)} {n : Int} (h : DM c CW H H1 F S p va kvs n) (na : H1 a = none) : H a = none := by
  cases e : H a with
  | none => rfl
  | some o =>
    have := h.out a o e (h.po.ne na)
    rw [na] at this
    cases this
def spDeed (c : Cs) (CW : Addr) : Sp := fun vs H Q _ => ∃ (p va : Addr) (S : S3) (F : Addr → Prop) (kvs : List (Key × V)) (n : Int) (m : Nat), vs = [.ref p, .ref S.d, .ref va, .int (blO S.pre S.pr).length] ∧ PoolAt H p n ∧ n < 800000000 ∧ Db3 c CW H F S ∧ Sz S m ∧ m ≤ 800 ∧ H va = some (.dK kvs) ∧ VOk kvs ∧ kvs.length ≤ m ∧ Agree S kvs ∧ ¬ F p ∧ ¬ F va ∧
  ∀ (H' : Hp) (F' : Addr → Prop) (S' : S3) (kvs' : List (Key × V)), (∀ x o, H x = some o → ¬ F x → x ≠ p → x ≠ va → H' x = some o) → (∀ x, F' x → F x ∨ H x = none) → PoolAt H' p (n + 20) → Db3 c CW H' F' S' → S'.d = S.d → Sz S' (m + 1) → H' va = some (.dK kvs') → VOk kvs' → kvs'.length ≤ m + 1 → Agree S' kvs' → Q (.int (blO S'.pre S'.pr).length) H'
section
variable {P : Program} {w : World} {K : PySem.W.Frag} {mg : Str → Option Value} {base : Heap} {c : Cs} {CW : Addr}
theorem ok_law_deed {f : Addr} {fd : FuncData} (F : Fun K "_law_deed" "_law_deed" s_law_deed f fd) (T : Bn mg) (B : DbTxt K mg c) (nsq : PySem.W.noSeq K c.D = true) (D_law_draw : Df P w K mg base 1 "_law_draw" ["pool", "many"] spDraw) (D_law_word : Df P w K mg base 2 "_law_word" ["pool"] spWord)
    (M_enter : MDf P w K mg base CX0 4 c.D "enter" ["self", "mode"] [] (spEnter3 c CW)) (M_leave : MDf P w K mg base CX0 4 c.D "leave" ["self", "error", "commits"] [.non, .bl true] (spLeave3 c CW)) (C_set : SpD P w K mg base CX0 5 c.D "__setitem__" (spSet3 c CW)) :
    FnOk P w K mg base CX0 7 f fd ["pool", "db", "values", "depth"] (spDeed c CW) := by
  refine F.ok sc_law_deed (fun vs H Q E h => ?_) (fun cdv A outer s H vs Q E hr h => ?_)
  · obtain ⟨p, va, S, F, kvs, n, m, rfl, _⟩ := h
    rfl
  · obtain ⟨p, va, S, F, kvs, n, m, rfl, hp, hn, hd, sz, hm, hv, vok, vl, ag, np, nva, k⟩ := h
    have hu := hu_of hr
    refine ⟨_, (pss_cons (ps_set (i := 4) sc_law_deed.nd rfl (Or.inl rfl) (pe_df D_law_draw hr (by decide) rfl (pa_cons (pv 0) (pa_cons pe_int pa_nil))))
  (pss_cons (ps_if (pt_cmpR op_eq (pv 4) pe_int (nomark _))
  (pss_cons (ps_expr (pe_md M_enter B.cD hr (by decide) (pv 1) (pa_cons (pe_ix ix_list (pe_lst (pa_cons pe_str (pa_cons pe_str pa_nil))) (pe_df D_law_draw hr (by decide) rfl (pa_cons (pv 0) (pa_cons pe_int pa_nil))) (fun _ _ => rfl)) pa_nil)))
  (pss_one (ps_ret (pe_op op_add (pv 3) pe_int))))
  pss_nil)
  (Evl.pss_cut (ps_if (PW.pt (pw_and (pt_cmpR op_eq (pv 4) pe_int (nomark _)) (pw_and1 (pt_cmpR op_gt (pv 3) pe_int (nomark _)))))
  (pss_cons (ps_expr (pe_md0 M_leave B.cD hr (by decide) (pv 1)))
  (pss_one (ps_ret (pe_op op_sub (pv 3) pe_int))))
  pss_nil)
  (pss_cons (ps_set (i := 5) sc_law_deed.nd rfl (Or.inl rfl) (pe_callB (cr_sortDS rfl) (by rfl) T.sorted (by decide +kernel) (pa_cons (pv 2) pa_nil)))
  (pss_cons (ps_set (i := 6) sc_law_deed.nd rfl (Or.inl rfl) (pe_df D_law_word hr (by decide) rfl (pa_cons (pv 0) pa_nil)))
  (Evl.pss_cut (ps_if (PW.pt (pw_and (pt_cmpR (op_neD hr.units) (pv 5) (pe_lst pa_nil) (nomark _)) (pw_and1 (pt_cmpR op_gt (pv 4) pe_int (nomark _)))))
  (pss_one (ps_set (i := 6) sc_law_deed.nd rfl (Or.inl rfl) (pe_ix ix_list (pv 5) (pe_df D_law_draw hr (by decide) rfl (pa_cons (pv 0) (pa_cons (pe_callB call_len_seq (by rfl) T.len PySem.boot_len (pa_cons (pv 5) pa_nil)) pa_nil))) (fun _ _ => rfl))))
  pss_nil)
  (pss_cons (ps_set (i := 7) sc_law_deed.nd rfl (Or.inl rfl) (pe_op op_mul (pe_df D_law_draw hr (by decide) rfl (pa_cons (pv 0) (pa_cons (pe_ix ix_list (pe_lst (pa_cons pe_int (pa_cons (pe_op op_pow pe_int pe_int) pa_nil))) (pe_df D_law_draw hr (by decide) rfl (pa_cons (pv 0) (pa_cons pe_int pa_nil))) (fun _ _ => rfl)) pa_nil))) (pe_ix ix_list (pe_lst (pa_cons pe_int (pa_cons (pe_un un_neg pe_int) pa_nil))) (pe_df D_law_draw hr (by decide) rfl (pa_cons (pv 0) (pa_cons pe_int pa_nil))) (fun _ _ => rfl))))
  (pss_cons (ps_asg (pv 7) (pg_sub (pv 1) (pv 6) (set_D C_set nsq hr (by decide))))
  (pss_cons (ps_dput hu (pv 2) (pv 6) (pv 7) rfl)
  (pss_one (ps_ret (pv 3)))))))))))), ?_⟩
    have nv : va ≠ p := fun e => by
      obtain ⟨a, b, c', z, _⟩ := hp
      rw [← e, hv] at z
      cases z
    have D0 : DM c CW H H F S p va kvs n := ⟨fun _ _ e _ => e, hd, hp, hv⟩
    have fin : ∀ (H1 : Hp) (n1 : Int), DM c CW H H1 F S p va kvs n1 → n1 ≤ n + 20 → ∀ (H' : Hp) (F' : Addr → Prop) (S' : S3), Fr F F' H1 H' → Db3 c CW H' F' S' → S'.d = S.d → Sz S' (m + 1) → (∀ r, S'.see r = S.see r) → Q (.int (blO S'.pre S'.pr).length) H' := fun H1 n1 D hn1 H' F' S' fr db e sz' r =>
      k H' F' S' kvs (fun x o e f n1 n2 => fr.k x o (D.out x o e n1) f) (fun x fx => (fr.n x fx).imp id fun e => D.free e) ((D.po.mv fun o e => fr.k p o e np).up hn1) db e sz' (fr.k va _ D.hv nva) vok (by omega) fun z => by rw [r z]; exact ag z
    refine ⟨_, rfl, p, 8, n, rfl, hp, by omega, by decide, by decide, fun d o h0 h8 po => ?_⟩
    have D1 := D0.step (Kp.at_ (o := o) (List.mem_singleton.mpr rfl)) po np nv
    refine ⟨_, rfl, rfl, _, rfl, ?_⟩
    refine ite2 (fun e1 => ?_) (fun e1 => ?_)
    · refine ⟨_, rfl, S.d, S.p.dx, _, rfl, D1.db.db.hd, rfl, (by show 2 ≤ sizeLine; decide), fun y ny => ?_⟩
      have D2 := D1.new (o := .lst [.str "join", .str "either"]) ny np nv
      refine ⟨_, rfl, p, 2, n + 1, rfl, D2.po, by omega, by decide, by decide, fun d2 o2 g0 g2 po2 => ?_⟩
      have D3 := D2.step (Kp.at_ (o := o2) (List.mem_singleton.mpr rfl)) po2 np nv
      have yp : y ≠ p := D1.po.ne ny
      obtain ⟨z, hz, ez⟩ : ∃ z : Str, (z = "join" ∨ z = "either") ∧ atI [V.str "join", V.str "either"] d2 = some (.str z) := by
        have : d2 = 0 ∨ d2 = 1 := by omega
        rcases this with rfl | rfl
        · exact ⟨"join", .inl rfl, rfl⟩
        · exact ⟨"either", .inr rfl, rfl⟩
      refine ⟨y, _, d2, .str z, rfl, rfl, SqL.of (by rw [upd_ne yp, upd_same]), ez, S, F, z, m, rfl, hz, D3.db, sz, by omega, fun H' F' S' fr db e sz' r => ?_⟩
      refine ⟨_, rfl, _, _, rfl, rfl, ?_⟩
      have e5 : ((blO S.pre S.pr).length : Int) + 1 = ((blO S'.pre S'.pr).length : Int) := by
        have := r.1
        omega
      show Q (.int (((blO S.pre S.pr).length : Int) + 1)) H'
      rw [e5]
      exact fin _ _ D3 (by omega) H' F' S' fr db e sz' r.2
    · refine ⟨fun σ' H' => σ' = [some (.ref p), some (.ref S.d), some (.ref va), some (.int (blO S.pre S.pr).length), some (.int d), none, none, none] ∧ H' = upd H p o, ?_, ?_⟩
      · refine ⟨_, rfl, rfl, _, rfl, ?_⟩
        refine ite2 (fun e2 => ?_) (fun e2 => iteF ⟨rfl, rfl⟩)
        refine ⟨_, rfl, _, _, rfl, rfl, _, rfl, ?_⟩
        refine ite2 (fun e3 => ?_) (fun e3 => ⟨rfl, rfl⟩)
        have e3 := of_decide_eq_true e3
        refine ⟨_, rfl, S.d, S.p.dx, _, rfl, D1.db.db.hd, rfl, S, F, m, rfl, D1.db, sz, by omega, by omega, fun H' F' S' fr db e sz' r => ?_⟩
        refine ⟨_, rfl, _, _, rfl, rfl, ?_⟩
        have e5 : ((blO S.pre S.pr).length : Int) - 1 = ((blO S'.pre S'.pr).length : Int) := by
          have := r.1
          omega
        show Q (.int (((blO S.pre S.pr).length : Int) - 1)) H'
        rw [e5]
        exact fin _ _ D1 (by omega) H' F' S' fr db e (sz'.up (by omega)) r.2
      · rintro σ' H' ⟨rfl, rfl⟩
        obtain ⟨ks, ek, lk, wk⟩ := vok.keys
        refine ⟨_, rfl, va, kvs, ks, rfl, .inl D1.hv, ek, fun ys q pm so nq => ?_⟩
        have D2 := D1.new (o := .lst (ys.map V.str)) nq np nv
        have hq : upd (upd H p o) q (.lst (ys.map V.str)) q = some (.lst (ys.map V.str)) := upd_same
        have wy : ∀ z ∈ ys, IsW z := fun z hz => wk z (pm.mem_iff.mp hz)
        have ly : ys.length ≤ 800 := by rw [pm.length_eq, lk]; omega
        refine ⟨_, rfl, p, n + 1, rfl, D2.po, by omega, fun z H3 wz po3 kp3 => ?_⟩
        have D3 := D2.step kp3 po3 np nv
        have hq3 : H3 q = some (.lst (ys.map V.str)) := kp3 _ _ hq (by simpa using D1.po.ne nq)
        refine ⟨fun σ' H' => ∃ r : Str, IsW r ∧ σ' = [some (.ref p), some (.ref S.d), some (.ref va), some (.int (blO S.pre S.pr).length), some (.int d), some (.ref q), some (.str r), none] ∧ DM c CW H H' F S p va kvs (n + 11), ?_, ?_⟩
        · have up3 : ∀ {G : Hp}, DM c CW H G F S p va kvs (n + 1 + 9) → DM c CW H G F S p va kvs (n + 11) := fun D => ⟨D.out, D.db, D.po.up (by omega), D.hv⟩
          refine ⟨_, rfl, Nat.zero_le _, fun y ny => ⟨.list (ys.map PyData.str), .list [], .lst (SqL.of (by rw [upd_ne (ne_of_none hq3 ny)]; exact hq3)) (dpAll_strs ys), .lst (SqL.of upd_same) .nil, shaped_strs ys fun z hz c hc => ((wy z hz).2.2 c hc).ok, rfl, _, rfl, ?_⟩⟩
          have D4 := D3.new (o := .lst []) ny np nv
          have hq4 : upd H3 y (.lst []) q = some (.lst (ys.map V.str)) := by rw [upd_ne (ne_of_none hq3 ny)]; exact hq3
          refine ite2 (fun e3 => ?_) (fun e3 => iteF ⟨z, wz, rfl, up3 D4⟩)
          refine ⟨_, rfl, _, _, rfl, rfl, _, rfl, ?_⟩
          refine ite2 (fun e4 => ?_) (fun e4 => ⟨z, wz, rfl, up3 D4⟩)
          have y0 : 0 < ys.length := by
            cases ys with
            | nil => cases e3
            | cons a l => exact Nat.succ_pos _
          refine ⟨_, rfl, _, rfl, _, rfl, q, _, rfl, .inl (SqL.of hq4), ?_⟩
          rw [List.length_map]
          refine ⟨p, ys.length, n + 1 + 9, rfl, D4.po, by omega, by omega, ?_, fun d3 o3 g0 g1 po4 => ?_⟩
          · have : ys.length < 2 ^ 200 := Nat.lt_of_le_of_lt ly (by decide)
            simpa using this
          have D5 := D4.step (Kp.at_ (o := o3) (List.mem_singleton.mpr rfl)) po4 np nv
          obtain ⟨j, rfl⟩ : ∃ j : Nat, d3 = j := ⟨d3.toNat, by omega⟩
          have hj : j < ys.length := by omega
          refine ⟨q, _, j, .str ys[j], rfl, rfl, SqL.of (by rw [upd_ne (D1.po.ne nq)]; exact hq4), atI_nat (by rw [List.getElem?_map, List.getElem?_eq_getElem hj]; rfl), ?_⟩
          exact ⟨ys[j], wy _ (List.getElem_mem hj), rfl, ⟨D5.out, D5.db, D5.po.up (by omega), D5.hv⟩⟩
        · rintro σ' H4 ⟨r, wr, rfl, D4⟩
          refine ⟨_, rfl, _, _, rfl, rfl, ⟨by decide, by decide, by decide⟩, (by show 2 ≤ sizeLine; decide), fun y ny => ?_⟩
          have D5 := D4.new (o := .lst [.int 7, .int (10 ^ (30 : Int).toNat)]) ny np nv
          have yp := D4.po.ne ny
          refine ⟨_, rfl, p, 2, n + 11, rfl, D5.po, by omega, by decide, by decide, fun d2 o2 g0 g2 po2 => ?_⟩
          have D6 := D5.step (Kp.at_ (o := o2) (List.mem_singleton.mpr rfl)) po2 np nv
          obtain ⟨M, em, M0, M1⟩ : ∃ M : Int, atI [V.int 7, V.int (10 ^ (30 : Int).toNat)] d2 = some (.int M) ∧ 0 < M ∧ M.natAbs < 2 ^ 200 := by
            have : d2 = 0 ∨ d2 = 1 := by omega
            rcases this with rfl | rfl
            · exact ⟨7, rfl, by decide, by decide⟩
            · exact ⟨10 ^ (30 : Int).toNat, rfl, by decide, by decide⟩
          refine ⟨y, _, d2, .int M, rfl, rfl, SqL.of (by rw [upd_ne yp, upd_same]), em, p, M, n + 11 + 1, rfl, D6.po, by omega, M0, M1, fun d3 o3 a0 a1 po3 => ?_⟩
          have D7 := D6.step (Kp.at_ (o := o3) (List.mem_singleton.mpr rfl)) po3 np nv
          refine ⟨1, rfl, (by show 2 ≤ sizeLine; decide), fun y2 ny2 => ?_⟩
          have D8 := D7.new (o := .lst [.int 1, .int (-1)]) ny2 np nv
          have yp2 := D7.po.ne ny2
          refine ⟨_, rfl, p, 2, n + 11 + 1 + 1, rfl, D8.po, by omega, by decide, by decide, fun d4 o4 b0 b2 po4 => ?_⟩
          have D9 := D8.step (Kp.at_ (o := o4) (List.mem_singleton.mpr rfl)) po4 np nv
          obtain ⟨sg, es, sok⟩ : ∃ sg : Int, atI [V.int 1, V.int (-1)] d4 = some (.int sg) ∧ CMul d3 sg := by
            have : d4 = 0 ∨ d4 = 1 := by omega
            rcases this with rfl | rfl
            · exact ⟨1, rfl, .inr ⟨by decide, by decide⟩⟩
            · exact ⟨-1, rfl, .inr ⟨by decide, by decide⟩⟩
          refine ⟨y2, _, d4, .int sg, rfl, rfl, SqL.of (by rw [upd_ne yp2, upd_same]), es, _, _, rfl, rfl, sok, ?_⟩
          refine ⟨_, rfl, _, rfl, _, rfl, S.d, S.p.dx, _, rfl, D9.db.db.hd, S, F, m, r, .int (d3 * sg), rfl, wr, D9.db, sz, by omega, fun H' F' S' fr db e sz' rr => ?_⟩
          have hv' : H' va = some (.dK kvs) := fr.k va _ D9.hv nva
          refine ⟨_, rfl, _, rfl, _, rfl, va, _, rfl, DPut.k (k := .inr r) hv' (small1000 (by omega)), _, rfl, ?_⟩
          have nfv : ¬ F' va := fun f => (fr.n va f).elim nva fun q => by
            have := D9.hv
            rw [q] at this
            cases this
          have e5 : ((blO S.pre S.pr).length : Int) = ((blO S'.pre S'.pr).length : Int) := by
            have := rr.1
            omega
          show Q (.int ((blO S.pre S.pr).length : Int)) _
          rw [e5]
          refine k _ F' S' (putK kvs (.inr r) (.int (d3 * sg))) (fun x o e f n1 n2 => ?_) (fun x fx => (fr.n x fx).imp id fun e => D9.free e) ((D9.po.mv fun o e => ?_).up (by omega)) (db.mv fun x o f e => ?_) e sz' upd_same (vok.put wr) ?_ fun z => ?_
          · rw [upd_ne n2]
            exact fr.k x o (D9.out x o e n1) f
          · rw [upd_ne nv.symm]
            exact fr.k p o e np
          · rw [upd_ne fun q => nfv (by rw [← q]; exact f)]
            exact e
          · have := length_putK kvs (.inr r : Key) (.int (d3 * sg))
            omega
          · rw [rr.2 z, valV_put]
            by_cases q : z = r
            · rw [if_pos q, if_pos (by rw [q])]
            · rw [if_neg q, if_neg (fun h => q (Sum.inr.inj h))]
              exact ag z
end
end IC
namespace IC
open PySem L2 TL
/-! ### the law of k03: its state -/
theorem Db3.tight {c : Cs} {CW : Addr} {H : Hp} {F : Addr → Prop} {S : S3} (h : Db3 c CW H F S) : Db3 c CW H (fun x => F x ∧ H x ≠ none) S := by
  have so : ∀ {x : Addr} {o : HO}, H x = some o → H x ≠ none := fun e q => by rw [e] at q; cases q
  refine ⟨⟨h.db.hd, h.db.hb, h.db.hm, h.db.hh, h.db.hk, h.db.hw, h.db.nbm, h.db.nhk, ⟨h.db.fd, so h.db.hd⟩, ⟨h.db.fb, so h.db.hb⟩, ⟨h.db.fm, so h.db.hm⟩, ⟨h.db.fh, so h.db.hh⟩, ⟨h.db.fk, so h.db.hk⟩, fun x hx => ⟨h.db.fw x hx, ?_⟩⟩, fun y hy => ⟨(h.np y hy).1, (h.np y hy).2, so (h.np y hy).1⟩, fun P e => ?_⟩
  · obtain ⟨v, dx, f, e⟩ := h.db.hw x hx
    exact so e
  · have g := h.tr P e
    exact { g with
      ft := ⟨g.ft, so g.ht⟩
      fo := ⟨g.fo, so g.ho⟩
      fs := ⟨g.fs, so g.hs⟩
      fe := ⟨g.fe, so g.he⟩
      fw := fun x hx => ⟨g.fw x hx, by obtain ⟨dx, f, e⟩ := g.hw x hx; exact so e⟩
      fl := fun z hz => ⟨g.fl z hz, so (g.hl z hz).1⟩
      fd := fun y hy => ⟨g.fd y hy, so (g.hd y hy)⟩ }
structure LS (c : Cs) (CW : Addr) (H H' : Hp) (S1 : S3) (F1 : Addr → Prop) (v1 : Addr) (k1 : List (Key × V)) (S2 : S3) (F2 : Addr → Prop) (v2 : Addr) (k2 : List (Key × V)) (dl : Addr) (xs : List V) (m : Nat) : Prop where
  s : Same H H'
  d1 : Db3 c CW H' F1 S1
  d2 : Db3 c CW H' F2 S2
  z1 : Sz S1 m
  z2 : Sz S2 m
  h1 : H' v1 = some (.dK k1)
  h2 : H' v2 = some (.dK k2)
  o1 : VOk k1
  o2 : VOk k2
  l1 : k1.length ≤ m
  l2 : k2.length ≤ m
  a1 : Agree S1 k1
  a2 : Agree S2 k2
  hd : H' dl = some (.lst xs)
  dis : ∀ x, F1 x → ¬ F2 x
  e1 : ∀ x, F1 x → H' x ≠ none
  e2 : ∀ x, F2 x → H' x ≠ none
  n1 : ∀ x, F1 x → H x = none
  n2 : ∀ x, F2 x → H x = none
  nv1 : H v1 = none
  nv2 : H v2 = none
  nd : H dl = none
  f11 : ¬ F1 v1
  f12 : ¬ F1 v2
  f21 : ¬ F2 v1
  f22 : ¬ F2 v2
  fd1 : ¬ F1 dl
  fd2 : ¬ F2 dl
  v12 : v1 ≠ v2
structure LP (H H' : Hp) (F1 F2 : Addr → Prop) (dl p : Addr) (n : Int) : Prop where
  po : PoolAt H' p n
  f1 : ¬ F1 p
  f2 : ¬ F2 p
  np : H p = none
  pd : dl ≠ p
section
variable {c : Cs} {CW : Addr} {H H1 H2 : Hp} {S1 S2 : S3} {F1 F2 : Addr → Prop} {v1 v2 dl p : Addr} {k1 k2 : List (Key × V)} {xs : List V} {m : Nat} {n n' : Int}
theorem LS.swap (h : LS c CW H H1 S1 F1 v1 k1 S2 F2 v2 k2 dl xs m) : LS c CW H H1 S2 F2 v2 k2 S1 F1 v1 k1 dl xs m :=
  ⟨h.s, h.d2, h.d1, h.z2, h.z1, h.h2, h.h1, h.o2, h.o1, h.l2, h.l1, h.a2, h.a1, h.hd, fun x f g => h.dis x g f, h.e2, h.e1, h.n2, h.n1, h.nv2, h.nv1, h.nd, h.f22, h.f21, h.f12, h.f11, h.fd2, h.fd1, h.v12.symm⟩
theorem LP.swap (h : LP H H1 F1 F2 dl p n) : LP H H1 F2 F1 dl p n := ⟨h.po, h.f2, h.f1, h.np, h.pd⟩
theorem LS.mv (h : LS c CW H H1 S1 F1 v1 k1 S2 F2 v2 k2 dl xs m) (k : ∀ x o, H1 x = some o → x ≠ p → H2 x = some o) (f1 : ¬ F1 p) (f2 : ¬ F2 p) (np : H p = none) (n1 : v1 ≠ p) (n2 : v2 ≠ p) (n3 : dl ≠ p) : LS c CW H H2 S1 F1 v1 k1 S2 F2 v2 k2 dl xs m := by
  have go : ∀ {F : Addr → Prop}, ¬ F p → ∀ x o, F x → H1 x = some o → H2 x = some o := fun {F} nf x o f e => k x o e fun q => nf (by rw [← q]; exact f)
  have al : ∀ {F : Addr → Prop}, ¬ F p → (∀ x, F x → H1 x ≠ none) → ∀ x, F x → H2 x ≠ none := fun {F} nf a x f => by
    cases e : H1 x with
    | none => exact absurd e (a x f)
    | some o =>
      rw [go nf x o f e]
      exact nofun
  exact ⟨fun x o e => k x o (h.s x o e) (fun q => by rw [q, np] at e; cases e), h.d1.mv (go f1), h.d2.mv (go f2), h.z1, h.z2, k _ _ h.h1 n1, k _ _ h.h2 n2, h.o1, h.o2, h.l1, h.l2, h.a1, h.a2, k _ _ h.hd n3, h.dis, al f1 h.e1, al f2 h.e2, h.n1, h.n2, h.nv1, h.nv2, h.nd, h.f11, h.f12, h.f21, h.f22, h.fd1, h.fd2, h.v12⟩
theorem LP.v {a : Addr} {kvs : List (Key × V)} (q : LP H H1 F1 F2 dl p n) (e : H1 a = some (.dK kvs)) : a ≠ p := fun z => by
  obtain ⟨x, y, w, g, _⟩ := q.po
  rw [← z, e] at g
  cases g
theorem LS.step (h : LS c CW H H1 S1 F1 v1 k1 S2 F2 v2 k2 dl xs m) (q : LP H H1 F1 F2 dl p n) (k : Kp [p] H1 H2) : LS c CW H H2 S1 F1 v1 k1 S2 F2 v2 k2 dl xs m :=
  h.mv (fun x o e nx => k x o e (by simpa using nx)) q.f1 q.f2 q.np (q.v h.h1) (q.v h.h2) q.pd
theorem LP.up (q : LP H H1 F1 F2 dl p n) (po : PoolAt H2 p n') : LP H H2 F1 F2 dl p n' := ⟨po, q.f1, q.f2, q.np, q.pd⟩
theorem LP.new {a : Addr} {o : HO} (q : LP H H1 F1 F2 dl p n) (na : H1 a = none) : LP H (upd H1 a o) F1 F2 dl p n := q.up (q.po.mv fun u e => by rw [upd_ne (ne_of_none e na)]; exact e)
theorem LS.same (h : LS c CW H H1 S1 F1 v1 k1 S2 F2 v2 k2 dl xs m) (s : Same H1 H2) : LS c CW H H2 S1 F1 v1 k1 S2 F2 v2 k2 dl xs m := by
  have al : ∀ {F : Addr → Prop}, (∀ x, F x → H1 x ≠ none) → ∀ x, F x → H2 x ≠ none := fun {F} a x f => by
    cases e : H1 x with
    | none => exact absurd e (a x f)
    | some o =>
      rw [s x o e]
      exact nofun
  exact ⟨h.s.trans s, h.d1.same s, h.d2.same s, h.z1, h.z2, s _ _ h.h1, s _ _ h.h2, h.o1, h.o2, h.l1, h.l2, h.a1, h.a2, s _ _ h.hd, h.dis, al h.e1, al h.e2, h.n1, h.n2, h.nv1, h.nv2, h.nd, h.f11, h.f12, h.f21, h.f22, h.fd1, h.fd2, h.v12⟩
/-- a deed of the first, and what it tells is put down -/
theorem LS.deed {F' : Addr → Prop} {S' : S3} {k' : List (Key × V)} {ys : List V} (h : LS c CW H H1 S1 F1 v1 k1 S2 F2 v2 k2 dl xs m) (q : LP H H1 F1 F2 dl p n) (out : ∀ x o, H1 x = some o → ¬ F1 x → x ≠ p → x ≠ v1 → H2 x = some o) (nf : ∀ x, F' x → F1 x ∨ H1 x = none) (po : PoolAt H2 p n') (db : Db3 c CW H2 F' S')
    (sz : Sz S' (m + 1)) (hv : H2 v1 = some (.dK k')) (vo : VOk k') (vl : k'.length ≤ m + 1) (ag : Agree S' k') :
    H2 dl = some (.lst xs) ∧ LS c CW H (upd H2 dl (.lst ys)) S' (fun x => F' x ∧ H2 x ≠ none) v1 k' S2 F2 v2 k2 dl ys (m + 1) ∧ LP H (upd H2 dl (.lst ys)) (fun x => F' x ∧ H2 x ≠ none) F2 dl p n' := by
  have so : ∀ {G : Hp} {x : Addr} {o : HO}, G x = some o → G x ≠ none := fun e q => by rw [e] at q; cases q
  have nF : ∀ {x : Addr} {o : HO}, H1 x = some o → ¬ F1 x → ¬ F' x := fun e n f => (nf _ f).elim n (so e)
  have dv1 : dl ≠ v1 := fun e => by
    have := h.hd
    rw [e, h.h1] at this
    cases this
  have dv2 : v2 ≠ dl := fun e => by
    have := h.hd
    rw [← e, h.h2] at this
    cases this
  have d2 : H2 dl = some (.lst xs) := out _ _ h.hd h.fd1 q.pd dv1
  have nd' : ¬ F' dl := nF h.hd h.fd1
  have pp : H1 p ≠ none := by
    obtain ⟨x, y, w, g, _⟩ := q.po
    exact so g
  have np' : ¬ F' p := fun f => (nf _ f).elim q.f1 pp
  have old2 : ∀ x o, F2 x → H1 x = some o → H2 x = some o := fun x o f e => out x o e (fun g => h.dis x g f) (fun z => q.f2 (by rw [← z]; exact f)) fun z => h.f21 (by rw [← z]; exact f)
  refine ⟨d2, ⟨fun x o e => ?_, db.tight.mv fun x o f e => ?_, h.d2.mv fun x o f e => ?_, sz, h.z2.up (Nat.le_succ _), ?_, ?_, vo, h.o2, vl, Nat.le_succ_of_le h.l2, ag, h.a2, upd_same, fun x f g => ?_, fun x f => ?_, fun x f => ?_, fun x f => ?_, h.n2, h.nv1, h.nv2, h.nd, fun f => nF h.h1 h.f11 f.1, fun f => nF h.h2 h.f12 f.1, h.f21, h.f22, fun f => nd' f.1, h.fd2, h.v12⟩, ?_⟩
  · have n1 : x ≠ dl := fun z => by rw [z, h.nd] at e; cases e
    rw [upd_ne n1]
    exact out x o (h.s x o e) (fun f => so e (h.n1 x f)) (fun z => by rw [z, q.np] at e; cases e) fun z => by rw [z, h.nv1] at e; cases e
  · rw [upd_ne fun z => nd' (by rw [← z]; exact f.1)]
    exact e
  · rw [upd_ne fun z => h.fd2 (by rw [← z]; exact f)]
    exact old2 x o f e
  · rw [upd_ne dv1.symm]
    exact hv
  · rw [upd_ne dv2]
    exact out _ _ h.h2 h.f12 (q.v h.h2) h.v12.symm
  · rcases nf x f.1 with z | z
    · exact h.dis x z g
    · exact h.e2 x g z
  · rw [upd_ne fun z => nd' (by rw [← z]; exact f.1)]
    exact f.2
  · rw [upd_ne fun z => h.fd2 (by rw [← z]; exact f)]
    cases e : H1 x with
    | none => exact absurd e (h.e2 x f)
    | some o =>
      rw [old2 x o f e]
      exact nofun
  · rcases nf x f.1 with z | z
    · exact h.n1 x z
    · exact h.s.free z
  · exact ⟨po.mv fun o e => by rw [upd_ne q.pd.symm]; exact e, fun f => np' f.1, q.f2, q.np, q.pd⟩
theorem LS.vals (h : LS c CW H H1 S1 F1 v1 k1 S2 F2 v2 k2 dl xs m) {r : Str} {x : Wr} (e : S1.see r = some x) : ∃ i, x.v = .int i := h.o1.int (r := r) (by rw [← h.a1 r, e]; rfl)
theorem LS.upm {m' : Nat} (h : LS c CW H H1 S1 F1 v1 k1 S2 F2 v2 k2 dl xs m) (e : m ≤ m') : LS c CW H H1 S1 F1 v1 k1 S2 F2 v2 k2 dl xs m' :=
  { h with z1 := h.z1.up e, z2 := h.z2.up e, l1 := Nat.le_trans h.l1 e, l2 := Nat.le_trans h.l2 e }
end
end IC
namespace IC
open PySem L2 TL
section
variable {P : Program} {w : World} {K : PySem.W.Frag} {mg : Str → Option Value} {base : Heap} {c : Cs} {CW : Addr}
theorem mem_cutV {xs : List V} {lo hi : Option Int} {x : V} (h : x ∈ cutV xs lo hi) : x ∈ xs := List.mem_of_mem_drop (List.mem_of_mem_take h)
def IsWs (xs : List V) : Prop := ∀ x ∈ xs, ∃ r, x = V.str r ∧ IsW r
theorem isWs_strs {ys : List Str} (h : ∀ z ∈ ys, IsW z) : IsWs (ys.map V.str) := fun x hx => by
  obtain ⟨z, hz, rfl⟩ := List.mem_map.mp hx
  exact ⟨z, rfl, h z hz⟩
/-- the law's things at a turn -/
structure OS (c : Cs) (CW : Addr) (H H' : Hp) (d1 d2 v1 v2 dl : Addr) (m : Nat) (S1 : S3) (F1 : Addr → Prop) (k1 : List (Key × V)) (S2 : S3) (F2 : Addr → Prop) (k2 : List (Key × V)) : Prop where
  ed1 : S1.d = d1
  ed2 : S2.d = d2
  ls : LS c CW H H' S1 F1 v1 k1 S2 F2 v2 k2 dl [.int (blO S1.pre S1.pr).length, .int (blO S2.pre S2.pr).length] m
/-- the eight things -/
theorem odd_all {G : Hp} {ta la lb lc : Addr} (h1 : G ta = some (.tup [.str "a"])) (h2 : G la = some (.lst [.str "a"])) (h3 : G lb = some (.lst [])) (h4 : G lc = some (.lst [.ref lb])) :
    ∀ x ∈ [V.str "", V.str "Ab", V.str "abcdefghi", V.int 3, V.non, V.ref ta, V.ref la, V.ref lc], ∃ d, NoW K G x ∧ (∀ H', Same G H' → Dp K H' x d) ∧ SeqAt.shaped d = true ∧ PyData.eqv d d = true := by
  intro x hx
  simp only [List.mem_cons, List.not_mem_nil, or_false] at hx
  rcases hx with rfl | rfl | rfl | rfl | rfl | rfl | rfl | rfl
  · exact ⟨.str "", .inl ⟨"", rfl, by decide, by decide +kernel⟩, fun _ _ => .str _, by decide +kernel, by decide +kernel⟩
  · exact ⟨.str "Ab", .inl ⟨"Ab", rfl, by decide, by decide +kernel⟩, fun _ _ => .str _, by decide +kernel, by decide +kernel⟩
  · exact ⟨.str "abcdefghi", .inl ⟨"abcdefghi", rfl, by decide, by decide +kernel⟩, fun _ _ => .str _, by decide +kernel, by decide +kernel⟩
  · exact ⟨.int 3, .inr oth_int, fun _ _ => .int _, by decide +kernel, by decide +kernel⟩
  · exact ⟨.none, .inr oth_non, fun _ _ => .non, by decide +kernel, by decide +kernel⟩
  · exact ⟨.tuple [.str "a"], .inr (oth_tup h1), fun H' s => .tup (SqT.of (s _ _ h1)) (.cons (.str _) .nil), by decide +kernel, by decide +kernel⟩
  · exact ⟨.list [.str "a"], .inr (oth_lst h2), fun H' s => .lst (SqL.of (s _ _ h2)) (.cons (.str _) .nil), by decide +kernel, by decide +kernel⟩
  · exact ⟨.list [.list []], .inr (oth_lst h4), fun H' s => .lst (SqL.of (s _ _ h4)) (.cons (.lst (SqL.of (s _ _ h3)) .nil) .nil), by decide +kernel, by decide +kernel⟩
theorem ok_law3 {f : Addr} {fd : FuncData} (F : Fun K "law" "law" s_law f fd) (T : Bn mg) (D_law_pool : Df P w K mg base 1 "_law_pool" ["script", "at"] (spPool K)) (D_law_draw : Df P w K mg base 1 "_law_draw" ["pool", "many"] spDraw) (D_law_word : Df P w K mg base 2 "_law_word" ["pool"] spWord)
    (C_D : CDf P w K mg base 1 "Database" c.D (spDb3 c CW)) (D_law_deed : Df P w K mg base 7 "_law_deed" ["pool", "db", "values", "depth"] (spDeed c CW)) (D_law_seen : Df P w K mg base 6 "_law_seen" ["db", "record", "due"] (spSeen3 c CW)) (D_law_odd : Df P w K mg base 6 "_law_odd" ["db", "thing"] (spOdd3 K c CW)) :
    FnOk P w K mg base CX0 8 f fd ["script"] (spLaw K) := by
  refine F.ok sc_law (fun vs H Q E h => ?_) (fun cdv A outer s H vs Q E hr h => ?_)
  · obtain ⟨a, ns, rfl, _⟩ := h
    rfl
  · obtain ⟨a, ns, rfl, hS, hlen, k⟩ := h
    have hu := hu_of hr
    refine ⟨_, (pss_cons (ps_par (i := 1) (j := 2) (by rfl) sc_law.nd rfl rfl (by decide) rfl rfl (pa_cons (pe_mk0 C_D hr (by decide) rfl) (pa_cons (pe_mk0 C_D hr (by decide) rfl) pa_nil)) (by rfl))
  (pss_cons (ps_par (i := 3) (j := 4) (by rfl) sc_law.nd rfl rfl (by decide) rfl rfl (pa_cons pe_dnewK (pa_cons pe_dnewK pa_nil)) (by rfl))
  (pss_cons (ps_set (i := 5) sc_law.nd rfl (Or.inl rfl) (pe_lst (pa_cons pe_int (pa_cons pe_int pa_nil))))
  (pss_cons (ps_for PassesOwn.never rfl (pi_range1 rfl T.range (pa_cons (pe_callB (call_max2 rfl) (by rfl) T.max PyProof.Rows.boot_max (pa_cons pe_int (pa_cons (pe_callB (call_min2 rfl) (by rfl) T.min PyProof.Rows.boot_min (pa_cons pe_int (pa_cons (pe_callB call_len_seq (by rfl) T.len PySem.boot_len (pa_cons (pv 0) pa_nil)) pa_nil))) pa_nil))) pa_nil)) (pg_name (i := 6) sc_law.nd rfl (Or.inl rfl))
  (pss_cons (ps_set (i := 7) sc_law.nd rfl (Or.inl rfl) (pe_df D_law_pool hr (by decide) rfl (pa_cons (pv 0) (pa_cons (pv 6) pa_nil))))
  (pss_cons (ps_for PassesOwn.never rfl (pi_range1 rfl T.range (pa_cons (pe_op op_add pe_int (pe_df D_law_draw hr (by decide) rfl (pa_cons (pv 7) (pa_cons pe_int pa_nil)))) pa_nil)) (pg_name (i := 8) sc_law.nd rfl (Or.inl rfl))
  (Evl.pss_cut (ps_if (pt_cmpR op_eq (pe_df D_law_draw hr (by decide) rfl (pa_cons (pv 7) (pa_cons pe_int pa_nil))) pe_int (nomark _))
  (pss_one (ps_asg (pe_df D_law_deed hr (by decide) rfl (pa_cons (pv 7) (pa_cons (pv 1) (pa_cons (pv 3) (pa_cons (pe_ix ix_list (pv 5) pe_int (fun _ _ => rfl)) pa_nil))))) (pg_sub (pv 5) pe_int set_list)))
  (pss_one (ps_asg (pe_df D_law_deed hr (by decide) rfl (pa_cons (pv 7) (pa_cons (pv 2) (pa_cons (pv 4) (pa_cons (pe_ix ix_list (pv 5) pe_int (fun _ _ => rfl)) pa_nil))))) (pg_sub (pv 5) pe_int set_list))))
  (pss_cons (ps_set (i := 10) sc_law.nd rfl (Or.inl rfl) (pe_op op_cat (pe_op op_cat (pe_lst (pa_cons (pe_df D_law_word hr (by decide) rfl (pa_cons (pv 7) pa_nil)) pa_nil)) (pe_callB (cr_sortDS rfl) (by rfl) T.sorted (by decide +kernel) (pa_cons (pv 3) pa_nil))) (pe_callB (cr_sortDS rfl) (by rfl) T.sorted (by decide +kernel) (pa_cons (pv 4) pa_nil))))
  (pss_cons (ps_set (i := 10) sc_law.nd rfl (Or.inl rfl) (pe_slice sl_list (pe_slice sl_list (pv 10) (po_some (pe_df D_law_draw hr (by decide) rfl (pa_cons (pv 7) (pa_cons (pe_callB call_len_seq (by rfl) T.len PySem.boot_len (pa_cons (pv 10) pa_nil)) pa_nil)))) po_none) po_none (po_some pe_int)))
  (pss_one (ps_for PassesOwn.never rfl (pi_list (pv 10)) (pg_name (i := 11) sc_law.nd rfl (Or.inl rfl))
  (pss_cons (ps_if (pt_not (pt_val (pe_df D_law_seen hr (by decide) rfl (pa_cons (pv 1) (pa_cons (pv 11) (pa_cons (pe_ifExp (pt_cmp (pc_din hu (pv 11) (pv 3))) (pe_lst (pa_cons (pe_dget hu (pv 3) (pv 11) (fun _ _ => rfl)) pa_nil)) (pe_lst pa_nil)) pa_nil))))))
  (pss_one (ps_ret pe_bl))
  pss_nil)
  (pss_one (ps_if (pt_not (pt_val (pe_df D_law_seen hr (by decide) rfl (pa_cons (pv 2) (pa_cons (pv 11) (pa_cons (pe_ifExp (pt_cmp (pc_din hu (pv 11) (pv 4))) (pe_lst (pa_cons (pe_dget hu (pv 4) (pv 11) (fun _ _ => rfl)) pa_nil)) (pe_lst pa_nil)) pa_nil))))))
  (pss_one (ps_ret pe_bl))
  pss_nil)))))))))
  (pss_one (ps_for PassesOwn.never rfl (pi_list (pe_lst (pa_cons pe_str (pa_cons pe_str (pa_cons pe_str (pa_cons pe_int (pa_cons pe_non (pa_cons (pe_tup (pa_cons pe_str pa_nil)) (pa_cons (pe_lst (pa_cons pe_str pa_nil)) (pa_cons (pe_lst (pa_cons (pe_lst pa_nil) pa_nil)) pa_nil)))))))))) (pg_name (i := 9) sc_law.nd rfl (Or.inl rfl))
  (pss_one (ps_if (pt_not (pt_val (pe_df D_law_odd hr (by decide) rfl (pa_cons (pv 1) (pa_cons (pv 9) pa_nil)))))
  (pss_one (ps_ret pe_bl))
  pss_nil)))))))
  (pss_one (ps_ret pe_bl)))))), ?_⟩
    intro d1 dx1 na1 nb1 ne1
    refine ⟨d1, dx1, rfl, upd_same, fun H1 F1 S1 kp1 nf1 ed1 ep1 ek1 er1 em1 db1 => ⟨rfl, ?_⟩⟩
    intro d2 dx2 na2 nb2 ne2
    refine ⟨d2, dx2, rfl, upd_same, fun H2 F2 S2 kp2 nf2 ed2 ep2 ek2 er2 em2 db2 => ⟨rfl, ?_⟩⟩
    have sA : Same H H1 := fun x o e => kp1 x o (by rw [upd_ne (ne_of_none e na1), upd_ne (ne_of_none e nb1)]; exact e) (by simpa using ne_of_none e na1)
    have sB : Same H1 H2 := fun x o e => kp2 x o (by rw [upd_ne (ne_of_none e na2), upd_ne (ne_of_none e nb2)]; exact e) (by simpa using ne_of_none e na2)
    have g1 : ∀ x, F1 x → H x = none := fun x f => by
      rcases nf1 x f with q | q
      · rw [q]; exact na1
      · exact (none_of (none_of q).2).2
    have g2 : ∀ x, F2 x → H1 x = none := fun x f => by
      rcases nf2 x f with q | q
      · rw [q]; exact na2
      · exact (none_of (none_of q).2).2
    refine ⟨_, _, rfl, ?_⟩
    intro v1 nv1 v2 nv2
    refine ⟨_, _, rfl, ?_⟩
    refine ⟨(by show 2 ≤ sizeLine; decide), fun dl ndl => ?_⟩
    have sC : Same H2 (upd (upd (upd H2 v1 (.dK [])) v2 (.dK [])) dl (.lst [.int 0, .int 0])) := ((Same.new nv1).trans (Same.new nv2)).trans (Same.new ndl)
    have hv1 : upd (upd (upd H2 v1 (.dK [])) v2 (.dK [])) dl (.lst [.int 0, .int 0]) v1 = some (.dK []) := (((Same.new (o := .dK []) nv2).trans (Same.new ndl)) _ _ upd_same)
    have hv2 : upd (upd (upd H2 v1 (.dK [])) v2 (.dK [])) dl (.lst [.int 0, .int 0]) v2 = some (.dK []) := (Same.new (o := .lst [.int 0, .int 0]) ndl) _ _ upd_same
    have hdl : upd (upd (upd H2 v1 (.dK [])) v2 (.dK [])) dl (.lst [.int 0, .int 0]) dl = some (.lst [.int 0, .int 0]) := upd_same
    have v12 : v1 ≠ v2 := (none_of nv2).1
    have nv2' := (none_of nv2).2
    have ndl' := (none_of (none_of ndl).2).2
    have see0 : ∀ S : S3, S.pr = none → S.kept = [] → Agree S [] := fun S e1 e2 r => by
      unfold S3.see
      rw [e1, e2]
      rfl
    have sz0 : ∀ S : S3, S.pr = none → S.kept = [] → S.pre = [] → S.made = [] → Sz S 0 := fun S e1 e2 e3 e4 => ⟨by rw [e4]; exact Nat.le_refl _, by rw [e1, e3]; exact Nat.le_refl _, by rw [e1, e2]; exact Nat.le_refl _, by rw [e1]; exact Nat.le_refl _⟩
    have L0 : OS c CW H (upd (upd (upd H2 v1 (.dK [])) v2 (.dK [])) dl (.lst [.int 0, .int 0])) d1 d2 v1 v2 dl 0 S1 (fun x => F1 x ∧ H1 x ≠ none) [] S2 (fun x => F2 x ∧ H2 x ≠ none) [] := by
      have al : ∀ {G G' : Hp}, Same G G' → ∀ x, G x ≠ none → G' x ≠ none := fun {G G'} s x n => by
        cases e : G x with
        | none => exact absurd e n
        | some o =>
          rw [s x o e]
          exact nofun
      have far : ∀ {x : Addr}, H2 x = none → ¬ (F1 x ∧ H1 x ≠ none) ∧ ¬ (F2 x ∧ H2 x ≠ none) := fun e => ⟨fun f => f.2 (sB.free e), fun f => f.2 e⟩
      refine ⟨ed1, ed2, ⟨(sA.trans sB).trans sC, db1.tight.same (sB.trans sC), db2.tight.same sC, sz0 S1 ep1 ek1 er1 em1, sz0 S2 ep2 ek2 er2 em2, hv1, hv2, nofun, nofun, Nat.le_refl _, Nat.le_refl _, see0 S1 ep1 ek1, see0 S2 ep2 ek2, ?_, fun x f g => f.2 (g2 x g.1), fun x f => al (sB.trans sC) x f.2, fun x f => al sC x f.2, fun x f => g1 x f.1, fun x f => sA.free (g2 x f.1),
        sA.free (sB.free nv1), sA.free (sB.free nv2'), sA.free (sB.free ndl'), (far nv1).1, (far nv2').1, (far nv1).2, (far nv2').2, (far ndl').1, (far ndl').2, v12⟩⟩
      rw [ep1, er1, ep2, er2]
      exact hdl
    generalize upd (upd (upd H2 v1 (.dK [])) v2 (.dK [])) dl (.lst [.int 0, .int 0]) = H5 at L0 ⊢
    clear sA sB sC hv1 hv2 hdl g1 g2 see0 sz0 nv1 nv2 nv2' ndl ndl' kp1 kp2 nf1 nf2 db1 db2 ed1 ed2 ep1 ep2 ek1 ek2 er1 er2 em1 em2 na1 nb1 ne1 na2 nb2 ne2
    have hlm : (ns.map V.int).length = ns.length := List.length_map ..
    obtain ⟨N, hN, hN2⟩ : ∃ N : Int, N = (if (if ((ns.map V.int).length : Int) < 8 then ((ns.map V.int).length : Int) else 8) > 1 then (if ((ns.map V.int).length : Int) < 8 then ((ns.map V.int).length : Int) else 8) else 1) ∧ 0 ≤ N ∧ N ≤ 8 := by
      refine ⟨_, rfl, ?_, ?_⟩ <;> (repeat' split) <;> omega
    refine ⟨_, rfl, a, _, rfl, .inl (L0.ls.s.seq hS), _, _, rfl, _, _, rfl, N, (by rw [hN]), by omega, by omega, for_range (lo := 0) (n := N.toNat) (fun i σ H1 => ∃ w6 w7 w8 w9 w10 w11, σ = [some (.ref a), some (.ref d1), some (.ref d2), some (.ref v1), some (.ref v2), some (.ref dl), w6, w7, w8, w9, w10, w11] ∧
      ∃ S1 F1 k1 S2 F2 k2, OS c CW H H1 d1 d2 v1 v2 dl (12 * i) S1 F1 k1 S2 F2 k2) ⟨_, _, _, _, _, _, rfl, _, _, _, _, _, _, L0⟩ ?_ ?_⟩
    · clear L0
      rintro i σ H1 hi ⟨w6, w7, w8, w9, w10, w11, rfl, S1, F1, k1, S2, F2, k2, L⟩
      refine ⟨_, rfl, _, rfl, a, ns, i, (by rw [Int.zero_add]; rfl), L.ls.s.seq hS, by omega, fun p o hp hp1 => ?_⟩
      have q0 : LP H (upd H1 p o) F1 F2 dl p 0 := ⟨hp1, fun f => L.ls.e1 _ f hp, fun f => L.ls.e2 _ f hp, L.ls.s.free hp, ne_of_none L.ls.hd hp⟩
      have L1 := L.ls.same (Same.new (o := o) hp)
      refine ⟨_, rfl, p, 12, 0, rfl, hp1, by omega, by decide, by decide, fun d o1 c0 c12 hp2 => ⟨_, _, rfl, rfl, _, rfl, by omega, by omega, ?_⟩⟩
      have L2 := L1.step q0 (Kp.at_ (o := o1) (List.mem_singleton.mpr rfl))
      have q2 := q0.up hp2
      refine for_range (lo := 0) (n := (1 + d).toNat) (fun j σ H1 => ∃ w8 w9 w10 w11, σ = [some (.ref a), some (.ref d1), some (.ref d2), some (.ref v1), some (.ref v2), some (.ref dl), some (.int (0 + (i : Int))), some (.ref p), w8, w9, w10, w11] ∧
        ∃ S1 F1 k1 S2 F2 k2, OS c CW H H1 d1 d2 v1 v2 dl (12 * i + j) S1 F1 k1 S2 F2 k2 ∧ LP H H1 F1 F2 dl p (60 * j + 1)) ⟨_, _, _, _, rfl, _, _, _, _, _, _, ⟨L.ed1, L.ed2, L2⟩, q2.up (q2.po.up (by omega))⟩ ?_ ?_
      · clear L L1 L2 q0 q2 hp hp1 hp2
        rintro j σ H1 hj ⟨w8, w9, w10, w11, rfl, S1, F1, k1, S2, F2, k2, L, q⟩
        have j12 : j < 12 := by omega
        refine ⟨fun σ' H' => σ' = [some (.ref a), some (.ref d1), some (.ref d2), some (.ref v1), some (.ref v2), some (.ref dl), some (.int (0 + (i : Int))), some (.ref p), some (.int (0 + (j : Int))), w9, w10, w11] ∧
          ∃ S1 F1 k1 S2 F2 k2, OS c CW H H' d1 d2 v1 v2 dl (12 * i + (j + 1)) S1 F1 k1 S2 F2 k2 ∧ LP H H' F1 F2 dl p (60 * j + 30), ?_, ?_⟩
        · refine ⟨_, rfl, p, 2, 60 * j + 1, rfl, q.po, by omega, by decide, by decide, fun d3 o3 c0 c2 hp3 => ⟨rfl, _, rfl, ?_⟩⟩
          have L2 := L.ls.step q (Kp.at_ (o := o3) (List.mem_singleton.mpr rfl))
          have q2 := q.up hp3
          refine ite2 (fun e1 => ?_) (fun e1 => ?_)
          · refine ⟨_, rfl, _, rfl, _, rfl, _, rfl, dl, _, 0, _, rfl, rfl, SqL.of L2.hd, rfl, ?_⟩
            refine ⟨p, v1, S1, F1, k1, 60 * j + 2, 12 * i + j, (by rw [L.ed1]; rfl), q2.po.up (by omega), by omega, L2.d1, L2.z1, by omega, L2.h1, L2.o1, L2.l1, L2.a1, q2.f1, L2.f11, fun H' F' S' k' out nf po db e sz hv vo vl ag => ?_⟩
            obtain ⟨hd', L3, q3⟩ := L2.deed (ys := [.int (blO S'.pre S'.pr).length, .int (blO S2.pre S2.pr).length]) q2 out nf po db sz hv vo vl ag
            exact ⟨_, rfl, dl, _, 0, 0, rfl, rfl, hd', rfl, rfl, S', _, k', S2, F2, k2, ⟨e.trans L.ed1, L.ed2, L3⟩, q3.up (q3.po.up (by omega))⟩
          · refine ⟨_, rfl, _, rfl, _, rfl, _, rfl, dl, _, 1, _, rfl, rfl, SqL.of L2.hd, rfl, ?_⟩
            refine ⟨p, v2, S2, F2, k2, 60 * j + 2, 12 * i + j, (by rw [L.ed2]; rfl), q2.po.up (by omega), by omega, L2.d2, L2.z2, by omega, L2.h2, L2.o2, L2.l2, L2.a2, q2.f2, L2.f22, fun H' F' S' k' out nf po db e sz hv vo vl ag => ?_⟩
            obtain ⟨hd', L3, q3⟩ := L2.swap.deed (ys := [.int (blO S1.pre S1.pr).length, .int (blO S'.pre S'.pr).length]) q2.swap out nf po db sz hv vo vl ag
            exact ⟨_, rfl, dl, _, 1, 1, rfl, rfl, hd', rfl, rfl, S1, F1, k1, S', _, k', ⟨L.ed1, e.trans L.ed2, L3.swap⟩, q3.swap.up (q3.po.up (by omega))⟩
        · clear L q
          rintro σ' H2 ⟨rfl, S1, F1, k1, S2, F2, k2, L, q⟩
          refine ⟨_, rfl, p, 60 * j + 30, rfl, q.po, by omega, fun z H3 wz po3 kp3 => ?_⟩
          have L3 := L.ls.step q kp3
          have q3 := q.up po3
          refine ⟨(by show 1 ≤ sizeLine; decide), fun y ny => ?_⟩
          have L4 := L3.same (Same.new (o := .lst [.str z]) ny)
          have q4 := q3.new (o := .lst [.str z]) ny
          have hy : upd H3 y (.lst [.str z]) y = some (.lst [.str z]) := upd_same
          obtain ⟨ks1, ek1, lk1, wk1⟩ := L4.o1.keys
          obtain ⟨ks2, ek2, lk2, wk2⟩ := L4.o2.keys
          refine ⟨_, rfl, v1, k1, ks1, rfl, .inl L4.h1, ek1, fun ys1 b1 pm1 so1 nb1 => ?_⟩
          have L5 := L4.same (Same.new (o := .lst (ys1.map V.str)) nb1)
          have q5 := q4.new (o := .lst (ys1.map V.str)) nb1
          have n1 : ys1.length ≤ 100 := by rw [pm1.length_eq, lk1]; have := L4.l1; omega
          refine ⟨y, b1, _, _, rfl, rfl, (Same.new nb1) _ _ hy, upd_same, Nat.le_of_lt (small1000 (show [V.str z].length + (ys1.map V.str).length ≤ 1000 by rw [List.length_map]; show 1 + ys1.length ≤ 1000; omega)), fun r1 nr1 => ?_⟩
          have L6 := L5.same (Same.new (o := .lst ([.str z] ++ ys1.map V.str)) nr1)
          have q6 := q5.new (o := .lst ([.str z] ++ ys1.map V.str)) nr1
          have hr1 := (upd_same : upd (upd (upd H3 y (.lst [.str z])) b1 (.lst (ys1.map V.str))) r1 (.lst ([.str z] ++ ys1.map V.str)) r1 = _)
          refine ⟨_, rfl, v2, k2, ks2, rfl, .inl L6.h2, ek2, fun ys2 b2 pm2 so2 nb2 => ?_⟩
          have L7 := L6.same (Same.new (o := .lst (ys2.map V.str)) nb2)
          have q7 := q6.new (o := .lst (ys2.map V.str)) nb2
          have n2 : ys2.length ≤ 100 := by rw [pm2.length_eq, lk2]; have := L4.l2; omega
          refine ⟨r1, b2, _, _, rfl, rfl, (Same.new nb2) _ _ hr1, upd_same, Nat.le_of_lt (small1000 (show ([V.str z] ++ ys1.map V.str).length + (ys2.map V.str).length ≤ 1000 by rw [List.length_append, List.length_map, List.length_map]; show 1 + ys1.length + ys2.length ≤ 1000; omega)), fun r2 nr2 => ?_⟩
          have L8 := L7.same (Same.new (o := .lst ([.str z] ++ ys1.map V.str ++ ys2.map V.str)) nr2)
          have q8 := q7.new (o := .lst ([.str z] ++ ys1.map V.str ++ ys2.map V.str)) nr2
          have hr2 := (upd_same : upd (upd (upd (upd (upd H3 y (.lst [.str z])) b1 (.lst (ys1.map V.str))) r1 (.lst ([.str z] ++ ys1.map V.str))) b2 (.lst (ys2.map V.str))) r2 (.lst ([.str z] ++ ys1.map V.str ++ ys2.map V.str)) r2 = _)
          have ws : IsWs ([.str z] ++ ys1.map V.str ++ ys2.map V.str) := fun x hx => by
            rcases List.mem_append.mp hx with hx | hx
            · rcases List.mem_append.mp hx with hx | hx
              · exact ⟨z, List.mem_singleton.mp hx, wz⟩
              · exact isWs_strs (fun u hu => wk1 u (pm1.mem_iff.mp hu)) x hx
            · exact isWs_strs (fun u hu => wk2 u (pm2.mem_iff.mp hu)) x hx
          have nn : 1 ≤ ([V.str z] ++ ys1.map V.str ++ ys2.map V.str).length ∧ ([V.str z] ++ ys1.map V.str ++ ys2.map V.str).length ≤ 201 := by
            rw [List.length_append, List.length_append, List.length_map, List.length_map, List.length_singleton]
            omega
          generalize [V.str z] ++ ys1.map V.str ++ ys2.map V.str = xs at hr2 ws nn L8 q8 ⊢
          generalize upd (upd (upd (upd (upd H3 y (.lst [.str z])) b1 (.lst (ys1.map V.str))) r1 (.lst ([.str z] ++ ys1.map V.str))) b2 (.lst (ys2.map V.str))) r2 (.lst xs) = H8 at hr2 L8 q8 ⊢
          refine ⟨_, rfl, _, rfl, _, rfl, r2, _, rfl, .inl (SqL.of hr2), p, _, 60 * j + 39, rfl, q8.po.up (by omega), by omega, by omega, ?_, fun d4 o4 e0 e4 po4 => ?_⟩
          · have : xs.length < 2 ^ 200 := Nat.lt_of_le_of_lt nn.2 (by decide)
            simpa using this
          have L9 := L8.step (q8.up (q8.po.up (m := 60 * j + 39) (by omega))) (Kp.at_ (o := o4) (List.mem_singleton.mpr rfl))
          have q9 := q8.up po4
          have r2p : r2 ≠ p := (q7.po.ne nr2)
          refine ⟨d4, rfl, r2, xs, rfl, SqL.of (by rw [upd_ne r2p]; exact hr2), fun t1 nt1 => ?_⟩
          have L10 := L9.same (Same.new (o := .lst (cutV xs (some d4) none)) nt1)
          have q10 := q9.new (o := .lst (cutV xs (some d4) none)) nt1
          refine ⟨3, rfl, t1, _, rfl, SqL.of upd_same, fun t2 nt2 => ?_⟩
          have L11 := L10.same (Same.new (o := .lst (cutV (cutV xs (some d4) none) none (some 3))) nt2)
          have q11 := q10.new (o := .lst (cutV (cutV xs (some d4) none) none (some 3))) nt2
          have ht2 := (upd_same : upd (upd (upd H8 p o4) t1 (.lst (cutV xs (some d4) none))) t2 (.lst (cutV (cutV xs (some d4) none) none (some 3))) t2 = _)
          have ws2 : IsWs (cutV (cutV xs (some d4) none) none (some 3)) := fun x hx => ws x (mem_cutV (mem_cutV hx))
          generalize cutV (cutV xs (some d4) none) none (some 3) = zs at ht2 ws2 L11 q11 ⊢
          generalize upd (upd (upd H8 p o4) t1 (.lst (cutV xs (some d4) none))) t2 (.lst zs) = HA at ht2 L11 q11 ⊢
          refine ⟨_, rfl, t2, rfl, ⟨_, SqL.of ht2⟩, for_list (K := K) (a := t2) (xs := zs) (fun _ σ G => ∃ w11, σ = [some (.ref a), some (.ref d1), some (.ref d2), some (.ref v1), some (.ref v2), some (.ref dl), some (.int (0 + (i : Int))), some (.ref p), some (.int (0 + (j : Int))), w9, some (.ref t2), w11] ∧ Same HA G) ⟨_, rfl, fun _ _ e => e⟩ (fun _ σ G _ e => ?_) (fun b x σ G hb e => ?_) (fun σ G e => ?_)⟩
          · obtain ⟨w11, rfl, sg⟩ := e
            exact SqL.of (sg _ _ ht2)
          · obtain ⟨w11, rfl, sg⟩ := e
            obtain ⟨r, rfl, wr⟩ := ws2 x (List.mem_of_getElem? hb)
            have M := L11.same sg
            refine ⟨_, rfl, _, rfl, _, rfl, _, rfl, v1, _, rfl, DGet.k (k := .inr r) M.h1, ?_⟩
            cases ev : valV k1 (.inr r) with
            | none =>
              refine ⟨_, rfl, iteF ⟨Nat.zero_le _, fun du ndu => ?_⟩⟩
              have Mx := M.same (Same.new (o := .lst []) ndu)
              refine ⟨S1, F1, r, du, (by rw [L.ed1]; rfl), wr, Mx.d1, Mx.z1.up (by omega), (by rw [Mx.a1 r, upd_same, ev]; rfl), fun x hx => Mx.vals hx, fun G2 s2 => ?_⟩
              refine ⟨true, rfl, iteF ?_⟩
              have sg2 : Same HA G2 := (sg.trans (Same.new ndu)).trans s2
              have M2 := L11.same sg2
              refine ⟨_, rfl, _, rfl, _, rfl, _, rfl, v2, _, rfl, DGet.k (k := .inr r) M2.h2, ?_⟩
              cases ev2 : valV k2 (.inr r) with
              | none =>
                refine ⟨_, rfl, iteF ⟨Nat.zero_le _, fun du2 ndu2 => ?_⟩⟩
                have My := (M2.same (Same.new (o := .lst []) ndu2)).swap
                exact ⟨S2, F2, r, du2, (by rw [L.ed2]; rfl), wr, My.d1, My.z1.up (by omega), (by rw [My.a1 r, upd_same, ev2]; rfl), fun x hx => My.vals hx, fun G3 s3 => ⟨true, rfl, iteF ⟨_, rfl, (sg2.trans (Same.new ndu2)).trans s3⟩⟩⟩
              | some u2 =>
                refine ⟨_, rfl, iteT ⟨_, rfl, _, rfl, v2, u2, rfl, (by rw [← ev2]; exact DGet.k (k := .inr r) M2.h2), (by show 1 ≤ sizeLine; decide), fun du2 ndu2 => ?_⟩⟩
                have My := (M2.same (Same.new (o := .lst [u2]) ndu2)).swap
                exact ⟨S2, F2, r, du2, (by rw [L.ed2]; rfl), wr, My.d1, My.z1.up (by omega), (by rw [My.a1 r, upd_same, ev2]; rfl), fun x hx => My.vals hx, fun G3 s3 => ⟨true, rfl, iteF ⟨_, rfl, (sg2.trans (Same.new ndu2)).trans s3⟩⟩⟩
            | some u =>
              refine ⟨_, rfl, iteT ⟨_, rfl, _, rfl, v1, u, rfl, (by rw [← ev]; exact DGet.k (k := .inr r) M.h1), (by show 1 ≤ sizeLine; decide), fun du ndu => ?_⟩⟩
              have Mx := M.same (Same.new (o := .lst [u]) ndu)
              refine ⟨S1, F1, r, du, (by rw [L.ed1]; rfl), wr, Mx.d1, Mx.z1.up (by omega), (by rw [Mx.a1 r, upd_same, ev]; rfl), fun x hx => Mx.vals hx, fun G2 s2 => ?_⟩
              refine ⟨true, rfl, iteF ?_⟩
              have sg2 : Same HA G2 := (sg.trans (Same.new ndu)).trans s2
              have M2 := L11.same sg2
              refine ⟨_, rfl, _, rfl, _, rfl, _, rfl, v2, _, rfl, DGet.k (k := .inr r) M2.h2, ?_⟩
              cases ev2 : valV k2 (.inr r) with
              | none =>
                refine ⟨_, rfl, iteF ⟨Nat.zero_le _, fun du2 ndu2 => ?_⟩⟩
                have My := (M2.same (Same.new (o := .lst []) ndu2)).swap
                exact ⟨S2, F2, r, du2, (by rw [L.ed2]; rfl), wr, My.d1, My.z1.up (by omega), (by rw [My.a1 r, upd_same, ev2]; rfl), fun x hx => My.vals hx, fun G3 s3 => ⟨true, rfl, iteF ⟨_, rfl, (sg2.trans (Same.new ndu2)).trans s3⟩⟩⟩
              | some u2 =>
                refine ⟨_, rfl, iteT ⟨_, rfl, _, rfl, v2, u2, rfl, (by rw [← ev2]; exact DGet.k (k := .inr r) M2.h2), (by show 1 ≤ sizeLine; decide), fun du2 ndu2 => ?_⟩⟩
                have My := (M2.same (Same.new (o := .lst [u2]) ndu2)).swap
                exact ⟨S2, F2, r, du2, (by rw [L.ed2]; rfl), wr, My.d1, My.z1.up (by omega), (by rw [My.a1 r, upd_same, ev2]; rfl), fun x hx => My.vals hx, fun G3 s3 => ⟨true, rfl, iteF ⟨_, rfl, (sg2.trans (Same.new ndu2)).trans s3⟩⟩⟩
          · obtain ⟨w11, rfl, sg⟩ := e
            have M := L11.same sg
            have q := q11.up (q11.po.mv fun o e => sg _ _ e)
            exact ⟨_, _, _, _, rfl, S1, F1, k1, S2, F2, k2, ⟨L.ed1, L.ed2, M⟩, q.up (q.po.up (by omega))⟩
      · clear L L1 L2 q0 q2 hp hp1 hp2
        rintro σ H1 ⟨w8, w9, w10, w11, rfl, S1, F1, k1, S2, F2, k2, L, q⟩
        refine ⟨(by show 1 ≤ sizeLine; decide), fun ta nta => ⟨(by show 1 ≤ sizeLine; decide), fun la nla => ⟨Nat.zero_le _, fun lb nlb => ⟨(by show 1 ≤ sizeLine; decide), fun lc nlc => ⟨(by show 8 ≤ sizeLine; decide), fun l8 nl8 => ?_⟩⟩⟩⟩⟩
        have t1 := Same.new (o := .tup [.str "a"]) nta
        have t2 := Same.new (o := .lst [.str "a"]) nla
        have t3 := Same.new (o := .lst []) nlb
        have t4 := Same.new (o := .lst [.ref lb]) nlc
        have t5 := Same.new (o := .lst [V.str "", V.str "Ab", V.str "abcdefghi", V.int 3, V.non, V.ref ta, V.ref la, V.ref lc]) nl8
        have h1 := t5 _ _ (t4 _ _ (t3 _ _ (t2 _ _ (upd_same : upd H1 ta (.tup [.str "a"]) ta = _))))
        have h2 := t5 _ _ (t4 _ _ (t3 _ _ (upd_same : upd (upd H1 ta (.tup [.str "a"])) la (.lst [.str "a"]) la = _)))
        have h3 := t5 _ _ (t4 _ _ (upd_same : upd (upd (upd H1 ta (.tup [.str "a"])) la (.lst [.str "a"])) lb (.lst []) lb = _))
        have h4 := t5 _ _ (upd_same : upd (upd (upd (upd H1 ta (.tup [.str "a"])) la (.lst [.str "a"])) lb (.lst [])) lc (.lst [.ref lb]) lc = _)
        have L5 := L.ls.same ((((t1.trans t2).trans t3).trans t4).trans t5)
        have h8 := (upd_same : upd (upd (upd (upd (upd H1 ta (.tup [.str "a"])) la (.lst [.str "a"])) lb (.lst [])) lc (.lst [.ref lb])) l8 (.lst [V.str "", V.str "Ab", V.str "abcdefghi", V.int 3, V.non, V.ref ta, V.ref la, V.ref lc]) l8 = _)
        clear t1 t2 t3 t4 t5
        generalize upd (upd (upd (upd (upd H1 ta (.tup [.str "a"])) la (.lst [.str "a"])) lb (.lst [])) lc (.lst [.ref lb])) l8 (.lst [V.str "", V.str "Ab", V.str "abcdefghi", V.int 3, V.non, V.ref ta, V.ref la, V.ref lc]) = HB at h1 h2 h3 h4 h8 L5 ⊢
        refine ⟨l8, rfl, ⟨_, SqL.of h8⟩, for_list (K := K) (a := l8) (xs := [V.str "", V.str "Ab", V.str "abcdefghi", V.int 3, V.non, V.ref ta, V.ref la, V.ref lc]) (fun _ σ G => ∃ w9, σ = [some (.ref a), some (.ref d1), some (.ref d2), some (.ref v1), some (.ref v2), some (.ref dl), some (.int (0 + (i : Int))), some (.ref p), w8, w9, w10, w11] ∧ Same HB G) ⟨_, rfl, fun _ _ e => e⟩ (fun _ σ G _ e => ?_) (fun b x σ G hb e => ?_) (fun σ G e => ?_)⟩
        · obtain ⟨w9, rfl, sg⟩ := e
          exact SqL.of (sg _ _ h8)
        · obtain ⟨w9, rfl, sg⟩ := e
          obtain ⟨dd, nw, dp, sh, ev⟩ := odd_all (K := K) (sg _ _ h1) (sg _ _ h2) (sg _ _ h3) (sg _ _ h4) x (List.mem_of_getElem? hb)
          have M := L5.same sg
          exact ⟨_, rfl, _, rfl, S1, F1, x, dd, (by rw [L.ed1]; rfl), M.d1, M.z1.up (by omega), nw, dp, sh, ev, fun H' s' => ⟨true, rfl, iteF ⟨_, rfl, sg.trans s'⟩⟩⟩
        · obtain ⟨w9, rfl, sg⟩ := e
          exact ⟨_, _, _, _, _, _, rfl, S1, F1, k1, S2, F2, k2, L.ed1, L.ed2, (L5.same sg).upm (by omega)⟩
    · rintro σ H1 ⟨w6, w7, w8, w9, w10, w11, rfl, _⟩
      exact k _
end
end IC
namespace IC
open PySem L2 TL
theorem all_mk {l : PySem.W.OpenLaw} {w : World} {K : PySem.W.Frag} {h : Heap} {mg : Str → Option Value} {fa f0 f1 f2 f3 f4 f5 f6 f7 f8 f9 f10 f11 f12 f13 f14 f15 f16 f17 f18 f19 f20 f21 f22 f23 f24 f25 f26 f27 f28 f29 : Addr} (X : K.In h) (G : h.Ns mainGlobals mg) (hfa : mg "law" = some (.ref fa))
    {od0 an0 od1 an1 od2 an2 od3 an3 od4 an4 od5 an5 od6 an6 od7 an7 od8 an8 od9 an9 od10 an10 od11 an11 od12 an12 od13 an13 od14 an14 od15 an15 od16 an16 od17 an17 od18 an18 od19 an19 od20 an20 od21 an21 od22 an22 od23 an23 od24 an24 od25 an25 od26 an26 od27 an27 od28 an28 od29 an29 : Option Addr} {sl0 sl1 sl2 sl3 sl4 sl5 sl6 sl7 sl8 sl9 sl10 sl11 sl12 sl13 sl14 sl15 sl16 sl17 sl18 sl19 sl20 sl21 sl22 sl23 sl24 sl25 sl26 sl27 sl28 sl29 : Array (Option Value)} {oc0 kV0 dc0 pm0 cd0 ct0 oc1 kV1 dc1 pm1 cd1 ct1 oc2 kV2 dc2 pm2 cd2 ct2 oc3 kV3 dc3 pm3 cd3 ct3 oc4 kV4 dc4 pm4 cd4 ct4 oc5 kV5 dc5 pm5 cd5 ct5 oc6 kV6 dc6 pm6 cd6 ct6 oc7 kV7 dc7 pm7 cd7 ct7 oc8 kV8 dc8 pm8 cd8 ct8 oc9 kV9 dc9 pm9 cd9 ct9 oc10 kV10 dc10 pm10 cd10 ct10 oc11 kV11 dc11 pm11 cd11 ct11 oc12 kV12 dc12 pm12 cd12 ct12 oc13 kV13 dc13 pm13 cd13 ct13 oc14 kV14 dc14 pm14 cd14 ct14 oc15 kV15 dc15 pm15 cd15 ct15 oc16 kV16 dc16 pm16 cd16 ct16 oc17 kV17 dc17 pm17 cd17 ct17 oc18 dc18 pm18 cd18 ct18 oc19 kV19 dc19 pm19 cd19 ct19 oc20 kV20 dc20 pm20 cd20 ct20 oc21 kV21 dc21 pm21 cd21 ct21 oc22 kV22 dc22 pm22 cd22 ct22 oc23 kV23 dc23 pm23 cd23 ct23 oc24 kV24 dc24 pm24 cd24 ct24 oc25 kV25 dc25 pm25 cd25 ct25 oc26 kV26 dc26 pm26 cd26 ct26 oc27 kV27 dc27 pm27 cd27 ct27 oc28 kV28 dc28 pm28 cd28 ct28 oc29 kV29 dc29 pm29 cd29 ct29 : Value} {CM pM tM : Addr} {rsM : List Value} {ddM : Option Addr} {nM : Nat} {slM : Array (Option Value)} {y0 y1 y2 y3 y4 y5 y6 y7 w0 w1 w2 w3 w4 w5 w6 w7 : Tok} {CD CT CW EB EN CI TL KL : Addr} {odL : Option Addr} {nL : Nat} {slL : Array (Option Value)} {tk0 tk1 tk2 : Tok} {nm1 q1 : Str} {N1 : Addr} {bs1 : List Value} {sn1 : List Str} {su1 : List Value} {ab1 : Bool} {co1 : Option Bool} {dd1 : Option Addr} {ka1 kb1 kc1 kd1 ke1 : Option Value} {nm2 q2 : Str} {N2 : Addr} {bs2 : List Value} {sn2 : List Str} {su2 : List Value} {ab2 : Bool} {co2 : Option Bool} {dd2 : Option Addr} {ka2 kb2 kc2 kd2 ke2 : Option Value} {p13 : Addr} {rs13 : List Value} {p14 : Addr} {rs14 : List Value}
    (a0 : PySem.W.nsIn K mainGlobals "_law_pool" = some (some (.ref f0))) (l0 : K.lookup f0 = some ⟨oc0, od0, .func (PySem.W.fnOf "_law_pool" "_law_pool" (defArgs s_law_pool) (defBody s_law_pool) (defScope s_law_pool) .none kV0 dc0 pm0 an0 cd0 ct0), sl0⟩) (c0 : PySem.W.codeIn K cd0 "_law_pool" = true) (k0 : PySem.W.keepIn K (.ref f0) = true)
    (a1 : PySem.W.nsIn K mainGlobals "_law_draw" = some (some (.ref f1))) (l1 : K.lookup f1 = some ⟨oc1, od1, .func (PySem.W.fnOf "_law_draw" "_law_draw" (defArgs s_law_draw) (defBody s_law_draw) (defScope s_law_draw) .none kV1 dc1 pm1 an1 cd1 ct1), sl1⟩) (c1 : PySem.W.codeIn K cd1 "_law_draw" = true) (k1 : PySem.W.keepIn K (.ref f1) = true)
    (a2 : PySem.W.nsIn K mainGlobals "_law_word" = some (some (.ref f2))) (l2 : K.lookup f2 = some ⟨oc2, od2, .func (PySem.W.fnOf "_law_word" "_law_word" (defArgs s_law_word) (defBody s_law_word) (defScope s_law_word) .none kV2 dc2 pm2 an2 cd2 ct2), sl2⟩) (c2 : PySem.W.codeIn K cd2 "_law_word" = true) (k2 : PySem.W.keepIn K (.ref f2) = true)
    (a3 : PySem.W.nsIn K mainGlobals "is_word" = some (some (.ref f3))) (l3 : K.lookup f3 = some ⟨oc3, od3, .func (PySem.W.fnOf "is_word" "is_word" (defArgs s_is_word) (defBody s_is_word) (defScope s_is_word) .none kV3 dc3 pm3 an3 cd3 ct3), sl3⟩) (c3 : PySem.W.codeIn K cd3 "is_word" = true) (k3 : PySem.W.keepIn K (.ref f3) = true)
    (a4 : PySem.W.recIn K pM "staticmethod" = some (.ref f4 :: rsM)) (l4 : K.lookup f4 = some ⟨oc4, od4, .func (PySem.W.fnOf "is_mode" "Mode.is_mode" (defArgs s_Mode_is_mode) (defBody s_Mode_is_mode) (defScope s_Mode_is_mode) .none kV4 dc4 pm4 an4 cd4 ct4), sl4⟩) (c4 : PySem.W.codeIn K cd4 "Mode.is_mode" = true) (k4 : PySem.W.keepIn K (.ref f4) = true)
    (a5 : PySem.W.findIn K (.ref EB) "__init__" = some (some (.ref f5))) (l5 : K.lookup f5 = some ⟨oc5, od5, .func (PySem.W.fnOf "__init__" "BadWord.__init__" (defArgs s_BadWord___init__) (defBody s_BadWord___init__) (defScope s_BadWord___init__) .none kV5 dc5 pm5 an5 cd5 ct5), sl5⟩) (c5 : PySem.W.codeIn K cd5 "BadWord.__init__" = true) (k5 : PySem.W.keepIn K (.ref f5) = true) (t5 : PySem.W.typeIn K (.ref f5) = some (.type "function"))
    (a6 : PySem.W.findIn K (.ref EN) "__init__" = some (some (.ref f6))) (l6 : K.lookup f6 = some ⟨oc6, od6, .func (PySem.W.fnOf "__init__" "NoRecord.__init__" (defArgs s_NoRecord___init__) (defBody s_NoRecord___init__) (defScope s_NoRecord___init__) .none kV6 dc6 pm6 an6 cd6 ct6), sl6⟩) (c6 : PySem.W.codeIn K cd6 "NoRecord.__init__" = true) (k6 : PySem.W.keepIn K (.ref f6) = true) (t6 : PySem.W.typeIn K (.ref f6) = some (.type "function"))
    (a7 : PySem.W.findIn K (.ref CW) "__init__" = some (some (.ref f7))) (l7 : K.lookup f7 = some ⟨oc7, od7, .func (PySem.W.fnOf "__init__" "Write.__init__" (defArgs s_Write___init__) (defBody s_Write___init__) (defScope s_Write___init__) .none kV7 dc7 pm7 an7 cd7 ct7), sl7⟩) (c7 : PySem.W.codeIn K cd7 "Write.__init__" = true) (k7 : PySem.W.keepIn K (.ref f7) = true) (i7 : PySem.W.isFn K (.ref f7) = true)
    (a8 : PySem.W.findIn K (.ref CT) "__init__" = some (some (.ref f8))) (l8 : K.lookup f8 = some ⟨oc8, od8, .func (PySem.W.fnOf "__init__" "Transaction.__init__" (defArgs s_Transaction___init__) (defBody s_Transaction___init__) (defScope s_Transaction___init__) .none kV8 dc8 pm8 an8 cd8 ct8), sl8⟩) (c8 : PySem.W.codeIn K cd8 "Transaction.__init__" = true) (k8 : PySem.W.keepIn K (.ref f8) = true) (i8 : PySem.W.isFn K (.ref f8) = true)
    (a9 : PySem.W.findIn K (.ref CD) "__init__" = some (some (.ref f9))) (l9 : K.lookup f9 = some ⟨oc9, od9, .func (PySem.W.fnOf "__init__" "Database.__init__" (defArgs s_Database___init__) (defBody s_Database___init__) (defScope s_Database___init__) .none kV9 dc9 pm9 an9 cd9 ct9), sl9⟩) (c9 : PySem.W.codeIn K cd9 "Database.__init__" = true) (k9 : PySem.W.keepIn K (.ref f9) = true) (i9 : PySem.W.isFn K (.ref f9) = true)
    (a10 : PySem.W.findIn K (.ref CD) "_enter_free" = some (some (.ref f10))) (l10 : K.lookup f10 = some ⟨oc10, od10, .func (PySem.W.fnOf "_enter_free" "Database._enter_free" (defArgs s_Database__enter_free) (defBody s_Database__enter_free) (defScope s_Database__enter_free) .none kV10 dc10 pm10 an10 cd10 ct10), sl10⟩) (c10 : PySem.W.codeIn K cd10 "Database._enter_free" = true) (k10 : PySem.W.keepIn K (.ref f10) = true) (i10 : PySem.W.isFn K (.ref f10) = true)
    (a11 : PySem.W.findIn K (.ref CD) "_enter_present" = some (some (.ref f11))) (l11 : K.lookup f11 = some ⟨oc11, od11, .func (PySem.W.fnOf "_enter_present" "Database._enter_present" (defArgs s_Database__enter_present) (defBody s_Database__enter_present) (defScope s_Database__enter_present) .none kV11 dc11 pm11 an11 cd11 ct11), sl11⟩) (c11 : PySem.W.codeIn K cd11 "Database._enter_present" = true) (k11 : PySem.W.keepIn K (.ref f11) = true) (i11 : PySem.W.isFn K (.ref f11) = true)
    (a12 : PySem.W.findIn K (.ref CD) "enter" = some (some (.ref f12))) (l12 : K.lookup f12 = some ⟨oc12, od12, .func (PySem.W.fnOf "enter" "Database.enter" (defArgs s_Database_enter) (defBody s_Database_enter) (defScope s_Database_enter) .none kV12 dc12 pm12 an12 cd12 ct12), sl12⟩) (c12 : PySem.W.codeIn K cd12 "Database.enter" = true) (k12 : PySem.W.keepIn K (.ref f12) = true) (i12 : PySem.W.isFn K (.ref f12) = true)
    (a13 : PySem.W.findIn K (.ref CD) "reason" = some (some (.ref p13))) (g13 : PySem.W.specialIn K (.ref p13) "__get__" = some (some (.builtin "property.__get__"))) (t13 : PySem.W.takesIn K (.ref p13) = some true) (r13 : PySem.W.recIn K p13 "property" = some (.ref f13 :: rs13)) (l13 : K.lookup f13 = some ⟨oc13, od13, .func (PySem.W.fnOf "reason" "Database.reason" (defArgs s_Database_reason) (defBody s_Database_reason) (defScope s_Database_reason) .none kV13 dc13 pm13 an13 cd13 ct13), sl13⟩) (c13 : PySem.W.codeIn K cd13 "Database.reason" = true) (k13 : PySem.W.keepIn K (.ref f13) = true)
    (a14 : PySem.W.findIn K (.ref CD) "is_doomed" = some (some (.ref p14))) (g14 : PySem.W.specialIn K (.ref p14) "__get__" = some (some (.builtin "property.__get__"))) (t14 : PySem.W.takesIn K (.ref p14) = some true) (r14 : PySem.W.recIn K p14 "property" = some (.ref f14 :: rs14)) (l14 : K.lookup f14 = some ⟨oc14, od14, .func (PySem.W.fnOf "is_doomed" "Database.is_doomed" (defArgs s_Database_is_doomed) (defBody s_Database_is_doomed) (defScope s_Database_is_doomed) .none kV14 dc14 pm14 an14 cd14 ct14), sl14⟩) (c14 : PySem.W.codeIn K cd14 "Database.is_doomed" = true) (k14 : PySem.W.keepIn K (.ref f14) = true)
    (a15 : PySem.W.findIn K (.ref CD) "_keep" = some (some (.ref f15))) (l15 : K.lookup f15 = some ⟨oc15, od15, .func (PySem.W.fnOf "_keep" "Database._keep" (defArgs s_Database__keep) (defBody s_Database__keep) (defScope s_Database__keep) .none kV15 dc15 pm15 an15 cd15 ct15), sl15⟩) (c15 : PySem.W.codeIn K cd15 "Database._keep" = true) (k15 : PySem.W.keepIn K (.ref f15) = true) (i15 : PySem.W.isFn K (.ref f15) = true)
    (a16 : PySem.W.findIn K (.ref CD) "_end_level" = some (some (.ref f16))) (l16 : K.lookup f16 = some ⟨oc16, od16, .func (PySem.W.fnOf "_end_level" "Database._end_level" (defArgs s_Database__end_level) (defBody s_Database__end_level) (defScope s_Database__end_level) .none kV16 dc16 pm16 an16 cd16 ct16), sl16⟩) (c16 : PySem.W.codeIn K cd16 "Database._end_level" = true) (k16 : PySem.W.keepIn K (.ref f16) = true) (i16 : PySem.W.isFn K (.ref f16) = true)
    (a17 : PySem.W.findIn K (.ref CD) "_end_block" = some (some (.ref f17))) (l17 : K.lookup f17 = some ⟨oc17, od17, .func (PySem.W.fnOf "_end_block" "Database._end_block" (defArgs s_Database__end_block) (defBody s_Database__end_block) (defScope s_Database__end_block) .none kV17 dc17 pm17 an17 cd17 ct17), sl17⟩) (c17 : PySem.W.codeIn K cd17 "Database._end_block" = true) (k17 : PySem.W.keepIn K (.ref f17) = true) (i17 : PySem.W.isFn K (.ref f17) = true)
    (a18 : PySem.W.findIn K (.ref CD) "leave" = some (some (.ref f18))) (l18 : K.lookup f18 = some ⟨oc18, od18, .func (PySem.W.fnOf "leave" "Database.leave" (defArgs s_Database_leave) (defBody s_Database_leave) (defScope s_Database_leave) (.ref TL) (.ref KL) dc18 pm18 an18 cd18 ct18), sl18⟩) (c18 : PySem.W.codeIn K cd18 "Database.leave" = true) (k18 : PySem.W.keepIn K (.ref f18) = true) (i18 : PySem.W.isFn K (.ref f18) = true)
    (a19 : PySem.W.findIn K (.ref CD) "_is_holder" = some (some (.ref f19))) (l19 : K.lookup f19 = some ⟨oc19, od19, .func (PySem.W.fnOf "_is_holder" "Database._is_holder" (defArgs s_Database__is_holder) (defBody s_Database__is_holder) (defScope s_Database__is_holder) .none kV19 dc19 pm19 an19 cd19 ct19), sl19⟩) (c19 : PySem.W.codeIn K cd19 "Database._is_holder" = true) (k19 : PySem.W.keepIn K (.ref f19) = true) (i19 : PySem.W.isFn K (.ref f19) = true)
    (a20 : PySem.W.findIn K (.ref CD) "holds" = some (some (.ref f20))) (l20 : K.lookup f20 = some ⟨oc20, od20, .func (PySem.W.fnOf "holds" "Database.holds" (defArgs s_Database_holds) (defBody s_Database_holds) (defScope s_Database_holds) .none kV20 dc20 pm20 an20 cd20 ct20), sl20⟩) (c20 : PySem.W.codeIn K cd20 "Database.holds" = true) (k20 : PySem.W.keepIn K (.ref f20) = true) (i20 : PySem.W.isFn K (.ref f20) = true)
    (a21 : PySem.W.findIn K (.ref CD) "has_suspended" = some (some (.ref f21))) (l21 : K.lookup f21 = some ⟨oc21, od21, .func (PySem.W.fnOf "has_suspended" "Database.has_suspended" (defArgs s_Database_has_suspended) (defBody s_Database_has_suspended) (defScope s_Database_has_suspended) .none kV21 dc21 pm21 an21 cd21 ct21), sl21⟩) (c21 : PySem.W.codeIn K cd21 "Database.has_suspended" = true) (k21 : PySem.W.keepIn K (.ref f21) = true) (i21 : PySem.W.isFn K (.ref f21) = true)
    (a22 : PySem.W.findIn K (.ref CD) "_seen" = some (some (.ref f22))) (l22 : K.lookup f22 = some ⟨oc22, od22, .func (PySem.W.fnOf "_seen" "Database._seen" (defArgs s_Database__seen) (defBody s_Database__seen) (defScope s_Database__seen) .none kV22 dc22 pm22 an22 cd22 ct22), sl22⟩) (c22 : PySem.W.codeIn K cd22 "Database._seen" = true) (k22 : PySem.W.keepIn K (.ref f22) = true) (i22 : PySem.W.isFn K (.ref f22) = true)
    (a23 : PySem.W.findIn K (.ref CD) "__setitem__" = some (some (.ref f23))) (l23 : K.lookup f23 = some ⟨oc23, od23, .func (PySem.W.fnOf "__setitem__" "Database.__setitem__" (defArgs s_Database___setitem__) (defBody s_Database___setitem__) (defScope s_Database___setitem__) .none kV23 dc23 pm23 an23 cd23 ct23), sl23⟩) (c23 : PySem.W.codeIn K cd23 "Database.__setitem__" = true) (k23 : PySem.W.keepIn K (.ref f23) = true) (i23 : PySem.W.isFn K (.ref f23) = true)
    (a24 : PySem.W.findIn K (.ref CD) "__getitem__" = some (some (.ref f24))) (l24 : K.lookup f24 = some ⟨oc24, od24, .func (PySem.W.fnOf "__getitem__" "Database.__getitem__" (defArgs s_Database___getitem__) (defBody s_Database___getitem__) (defScope s_Database___getitem__) .none kV24 dc24 pm24 an24 cd24 ct24), sl24⟩) (c24 : PySem.W.codeIn K cd24 "Database.__getitem__" = true) (k24 : PySem.W.keepIn K (.ref f24) = true) (i24 : PySem.W.isFn K (.ref f24) = true)
    (a25 : PySem.W.findIn K (.ref CD) "__contains__" = some (some (.ref f25))) (l25 : K.lookup f25 = some ⟨oc25, od25, .func (PySem.W.fnOf "__contains__" "Database.__contains__" (defArgs s_Database___contains__) (defBody s_Database___contains__) (defScope s_Database___contains__) .none kV25 dc25 pm25 an25 cd25 ct25), sl25⟩) (c25 : PySem.W.codeIn K cd25 "Database.__contains__" = true) (k25 : PySem.W.keepIn K (.ref f25) = true) (i25 : PySem.W.isFn K (.ref f25) = true)
    (a26 : PySem.W.nsIn K mainGlobals "_law_seen" = some (some (.ref f26))) (l26 : K.lookup f26 = some ⟨oc26, od26, .func (PySem.W.fnOf "_law_seen" "_law_seen" (defArgs s_law_seen) (defBody s_law_seen) (defScope s_law_seen) .none kV26 dc26 pm26 an26 cd26 ct26), sl26⟩) (c26 : PySem.W.codeIn K cd26 "_law_seen" = true) (k26 : PySem.W.keepIn K (.ref f26) = true)
    (a27 : PySem.W.nsIn K mainGlobals "_law_odd" = some (some (.ref f27))) (l27 : K.lookup f27 = some ⟨oc27, od27, .func (PySem.W.fnOf "_law_odd" "_law_odd" (defArgs s_law_odd) (defBody s_law_odd) (defScope s_law_odd) .none kV27 dc27 pm27 an27 cd27 ct27), sl27⟩) (c27 : PySem.W.codeIn K cd27 "_law_odd" = true) (k27 : PySem.W.keepIn K (.ref f27) = true)
    (a28 : PySem.W.nsIn K mainGlobals "_law_deed" = some (some (.ref f28))) (l28 : K.lookup f28 = some ⟨oc28, od28, .func (PySem.W.fnOf "_law_deed" "_law_deed" (defArgs s_law_deed) (defBody s_law_deed) (defScope s_law_deed) .none kV28 dc28 pm28 an28 cd28 ct28), sl28⟩) (c28 : PySem.W.codeIn K cd28 "_law_deed" = true) (k28 : PySem.W.keepIn K (.ref f28) = true)
    (a29 : PySem.W.nsIn K mainGlobals "law" = some (some (.ref f29))) (l29 : K.lookup f29 = some ⟨oc29, od29, .func (PySem.W.fnOf "law" "law" (defArgs s_law) (defBody s_law) (defScope s_law) .none kV29 dc29 pm29 an29 cd29 ct29), sl29⟩) (c29 : PySem.W.codeIn K cd29 "law" = true) (k29 : PySem.W.keepIn K (.ref f29) = true)
    (z_int : PySem.W.nsIn K mainGlobals "int" = some none)
    (z_len : PySem.W.nsIn K mainGlobals "len" = some none)
    (z_abs : PySem.W.nsIn K mainGlobals "abs" = some none)
    (z_range : PySem.W.nsIn K mainGlobals "range" = some none)
    (z_max : PySem.W.nsIn K mainGlobals "max" = some none)
    (z_min : PySem.W.nsIn K mainGlobals "min" = some none)
    (z_isi : PySem.W.nsIn K mainGlobals "isinstance" = some none)
    (z_str : PySem.W.nsIn K mainGlobals "str" = some none)
    (z_all : PySem.W.nsIn K mainGlobals "all" = some none)
    (z_sorted : PySem.W.nsIn K mainGlobals "sorted" = some none)
    (z_bool : PySem.W.nsIn K mainGlobals "bool" = some none)
    (mo : PySem.W.nsIn K mainGlobals "Mode" = some (some (.ref CM)))
    (mrd : PySem.W.readsIn K CM (.type "type") = true)
    (mga : PySem.W.specialIn K (.ref CM) "__getattribute__" = some (some (.builtin "type.__getattribute__")))
    (mall : PySem.W.findCls K (.ref CM) (.type "type") "ALL" = some (.val (.ref tM)))
    (mlt : K.lookup tM = some ⟨.type "tuple", ddM, .seq #[.str "join" y0, .str "inner" y1, .str "apart" y2, .str "must" y3, .str "either" y4, .str "never" y5, .str "outside" y6, .str "alone" y7] nM, slM⟩)
    (m0 : PySem.W.findCls K (.ref CM) (.type "type") "JOIN" = some (.val (.str "join" w0)))
    (m1 : PySem.W.findCls K (.ref CM) (.type "type") "INNER" = some (.val (.str "inner" w1)))
    (m2 : PySem.W.findCls K (.ref CM) (.type "type") "APART" = some (.val (.str "apart" w2)))
    (m3 : PySem.W.findCls K (.ref CM) (.type "type") "MUST" = some (.val (.str "must" w3)))
    (m4 : PySem.W.findCls K (.ref CM) (.type "type") "EITHER" = some (.val (.str "either" w4)))
    (m5 : PySem.W.findCls K (.ref CM) (.type "type") "NEVER" = some (.val (.str "never" w5)))
    (m6 : PySem.W.findCls K (.ref CM) (.type "type") "OUTSIDE" = some (.val (.str "outside" w6)))
    (m7 : PySem.W.findCls K (.ref CM) (.type "type") "ALONE" = some (.val (.str "alone" w7)))
    (msm : PySem.W.findCls K (.ref CM) (.type "type") "is_mode" = some (.get (.builtin "staticmethod.__get__") (.ref pM) .none (.ref CM)))
    (gDb : PySem.W.nsIn K mainGlobals "Database" = some (some (.ref CD)))
    (gT : PySem.W.nsIn K mainGlobals "Transaction" = some (some (.ref CT)))
    (gW : PySem.W.nsIn K mainGlobals "Write" = some (some (.ref CW)))
    (gB : PySem.W.nsIn K mainGlobals "BadWord" = some (some (.ref EB)))
    (xEB : K.lookup EB = some (excClassObj nm1 q1 EB N1 bs1 [.ref CI, .type "ValueError", .type "Exception", .type "BaseException", .type "object"] true sn1 su1 ab1 co1 dd1 ka1 kb1 kc1 kd1 ke1 "ValueError.__new__"))
    (sEBa : PySem.W.findIn K (.ref EB) "__setattr__" = some (some (.builtin "object.__setattr__")))
    (sEBg : PySem.W.findIn K (.ref EB) "__getattribute__" = some (some (.builtin "BaseException.__getattribute__")))
    (sEBh : PySem.W.findIn K (.ref EB) "__getattr__" = some none)
    (nB : PySem.W.findIn K (.ref EB) "word" = some none)
    (kB : PySem.W.keepIn K (.ref EB) = true)
    (eEBb : PySem.W.subIn K (.ref EB) (.type "BaseException") = some true)
    (eEBt : PySem.W.typeIn K (.ref EB) = some (.type "type"))
    (eEBh : PySem.W.hasDictIn K EB = true)
    (eEBc : PySem.W.isClsIn K EB = true)
    (uEB : PySem.W.subIn K (.ref EB) (.ref EB) = some true)
    (gN : PySem.W.nsIn K mainGlobals "NoRecord" = some (some (.ref EN)))
    (xEN : K.lookup EN = some (excClassObj nm2 q2 EN N2 bs2 [.ref CI, .type "ValueError", .type "Exception", .type "BaseException", .type "object"] true sn2 su2 ab2 co2 dd2 ka2 kb2 kc2 kd2 ke2 "ValueError.__new__"))
    (sENa : PySem.W.findIn K (.ref EN) "__setattr__" = some (some (.builtin "object.__setattr__")))
    (sENg : PySem.W.findIn K (.ref EN) "__getattribute__" = some (some (.builtin "BaseException.__getattribute__")))
    (sENh : PySem.W.findIn K (.ref EN) "__getattr__" = some none)
    (nN : PySem.W.findIn K (.ref EN) "record" = some none)
    (kN : PySem.W.keepIn K (.ref EN) = true)
    (eENb : PySem.W.subIn K (.ref EN) (.type "BaseException") = some true)
    (eENt : PySem.W.typeIn K (.ref EN) = some (.type "type"))
    (eENh : PySem.W.hasDictIn K EN = true)
    (eENc : PySem.W.isClsIn K EN = true)
    (uEN : PySem.W.subIn K (.ref EN) (.ref EN) = some true)
    (pgD : PySem.W.plainGet K CD Str.empty = true)
    (hdD : PySem.W.hasDictIn K CD = true)
    (poD : PySem.W.plainOver K CD = true)
    (saD : PySem.W.findIn K (.ref CD) "__setattr__" = some (some (.builtin "object.__setattr__")))
    (mkD : PySem.W.makesIn K CD = true)
    (kpD : PySem.W.keepIn K (.ref CD) = true)
    (pgT : PySem.W.plainGet K CT Str.empty = true)
    (hdT : PySem.W.hasDictIn K CT = true)
    (poT : PySem.W.plainOver K CT = true)
    (saT : PySem.W.findIn K (.ref CT) "__setattr__" = some (some (.builtin "object.__setattr__")))
    (mkT : PySem.W.makesIn K CT = true)
    (kpT : PySem.W.keepIn K (.ref CT) = true)
    (pgW : PySem.W.plainGet K CW Str.empty = true)
    (hdW : PySem.W.hasDictIn K CW = true)
    (poW : PySem.W.plainOver K CW = true)
    (saW : PySem.W.findIn K (.ref CW) "__setattr__" = some (some (.builtin "object.__setattr__")))
    (mkW : PySem.W.makesIn K CW = true)
    (kpW : PySem.W.keepIn K (.ref CW) = true)
    (nD0 : PySem.W.findIn K (.ref CD) "_present" = some none)
    (nD1 : PySem.W.findIn K (.ref CD) "_blocks" = some none)
    (nD2 : PySem.W.findIn K (.ref CD) "_floor" = some none)
    (nD3 : PySem.W.findIn K (.ref CD) "_made" = some none)
    (nD4 : PySem.W.findIn K (.ref CD) "_held" = some none)
    (nD5 : PySem.W.findIn K (.ref CD) "_kept" = some none)
    (nT0 : PySem.W.findIn K (.ref CT) "own" = some none)
    (nT1 : PySem.W.findIn K (.ref CT) "starts" = some none)
    (nT2 : PySem.W.findIn K (.ref CT) "first" = some none)
    (nW0 : PySem.W.findIn K (.ref CW) "record" = some none)
    (nW1 : PySem.W.findIn K (.ref CW) "value" = some none)
    (nW2 : PySem.W.findIn K (.ref CW) "holder" = some none)
    (nW3 : PySem.W.findIn K (.ref CW) "fate" = some none)
    (mT : PySem.W.mroIn K CT (.type "object") = some true)
    (sT : PySem.W.findIn K (.ref CT) "__eq__" = some (some (.builtin "object.__eq__")))
    (nsq : PySem.W.noSeq K CD = true)
    (gC0 : PySem.W.nsIn K mainGlobals "ENDS" = some (some (.str "ends" tk0)))
    (gC1 : PySem.W.nsIn K mainGlobals "DOOMS" = some (some (.str "dooms" tk1)))
    (gC2 : PySem.W.nsIn K mainGlobals "NOTHING" = some (some (.str "nothing" tk2)))
    (lTL : K.lookup TL = some ⟨.type "tuple", odL, .seq #[.none] nL, slL⟩)
    (hKL : PySem.W.nsIn K KL "commits" = some (some (.bool true)))
    (fi1 : PySem.W.fnIn K f23 = true)
    (fi2 : PySem.W.fnIn K f24 = true)
    (fi3 : PySem.W.fnIn K f25 = true)
    : ∃ fd : FuncData, (∀ (s : Shared) (v : Value), BindsTo s fd ⟨[v], []⟩ [("script", v)]) ∧ ∀ base : Heap, K.In base → base.Ns mainGlobals mg → FnOk l.prog w K mg base CX0 8 fa fd ["script"] (spLaw K) := by
  have e := hfa.symm.trans (PySem.W.mg_of X G a29)
  cases e
  have T : Bn mg := ⟨PySem.W.mg_none_of X G z_int, PySem.W.mg_none_of X G z_len, PySem.W.mg_none_of X G z_abs, PySem.W.mg_none_of X G z_range, PySem.W.mg_none_of X G z_max, PySem.W.mg_none_of X G z_min, PySem.W.mg_none_of X G z_isi, PySem.W.mg_none_of X G z_str, PySem.W.mg_none_of X G z_all, PySem.W.mg_none_of X G z_sorted, PySem.W.mg_none_of X G z_bool⟩
  have F0 := fun_mk (st := s_law_pool) l0 c0 k0
  have b0 := F0.binds (ps := ["script", "at"]) fun _ _ _ _ _ _ us hl => match us, hl with | [_, _], _ => rfl
  have F1 := fun_mk (st := s_law_draw) l1 c1 k1
  have b1 := F1.binds (ps := ["pool", "many"]) fun _ _ _ _ _ _ us hl => match us, hl with | [_, _], _ => rfl
  have F2 := fun_mk (st := s_law_word) l2 c2 k2
  have b2 := F2.binds (ps := ["pool"]) fun _ _ _ _ _ _ us hl => match us, hl with | [_], _ => rfl
  have F3 := fun_mk (st := s_is_word) l3 c3 k3
  have b3 := F3.binds (ps := ["thing"]) fun _ _ _ _ _ _ us hl => match us, hl with | [_], _ => rfl
  have F4 := fun_mk (st := s_Mode_is_mode) l4 c4 k4
  have b4 := F4.binds (ps := ["thing"]) fun _ _ _ _ _ _ us hl => match us, hl with | [_], _ => rfl
  have F5 := fun_mk (st := s_BadWord___init__) l5 c5 k5
  have b5 := F5.binds (ps := ["self", "word"]) fun _ _ _ _ _ _ us hl => match us, hl with | [_, _], _ => rfl
  have F6 := fun_mk (st := s_NoRecord___init__) l6 c6 k6
  have b6 := F6.binds (ps := ["self", "record"]) fun _ _ _ _ _ _ us hl => match us, hl with | [_, _], _ => rfl
  have F7 := fun_mk (st := s_Write___init__) l7 c7 k7
  have b7 := F7.binds (ps := ["self", "record", "value", "holder"]) fun _ _ _ _ _ _ us hl => match us, hl with | [_, _, _, _], _ => rfl
  have F8 := fun_mk (st := s_Transaction___init__) l8 c8 k8
  have b8 := F8.binds (ps := ["self"]) fun _ _ _ _ _ _ us hl => match us, hl with | [_], _ => rfl
  have F9 := fun_mk (st := s_Database___init__) l9 c9 k9
  have b9 := F9.binds (ps := ["self"]) fun _ _ _ _ _ _ us hl => match us, hl with | [_], _ => rfl
  have F10 := fun_mk (st := s_Database__enter_free) l10 c10 k10
  have b10 := F10.binds (ps := ["self", "mode"]) fun _ _ _ _ _ _ us hl => match us, hl with | [_, _], _ => rfl
  have F11 := fun_mk (st := s_Database__enter_present) l11 c11 k11
  have b11 := F11.binds (ps := ["self", "mode", "present"]) fun _ _ _ _ _ _ us hl => match us, hl with | [_, _, _], _ => rfl
  have F12 := fun_mk (st := s_Database_enter) l12 c12 k12
  have b12 := F12.binds (ps := ["self", "mode"]) fun _ _ _ _ _ _ us hl => match us, hl with | [_, _], _ => rfl
  have F13 := fun_mk (st := s_Database_reason) l13 c13 k13
  have b13 := F13.binds (ps := ["self"]) fun _ _ _ _ _ _ us hl => match us, hl with | [_], _ => rfl
  have F14 := fun_mk (st := s_Database_is_doomed) l14 c14 k14
  have b14 := F14.binds (ps := ["self"]) fun _ _ _ _ _ _ us hl => match us, hl with | [_], _ => rfl
  have F15 := fun_mk (st := s_Database__keep) l15 c15 k15
  have b15 := F15.binds (ps := ["self", "transaction"]) fun _ _ _ _ _ _ us hl => match us, hl with | [_, _], _ => rfl
  have F16 := fun_mk (st := s_Database__end_level) l16 c16 k16
  have b16 := F16.binds (ps := ["self", "transaction", "error", "commits"]) fun _ _ _ _ _ _ us hl => match us, hl with | [_, _, _, _], _ => rfl
  have F17 := fun_mk (st := s_Database__end_block) l17 c17 k17
  have b17 := F17.binds (ps := ["self", "error", "commits"]) fun _ _ _ _ _ _ us hl => match us, hl with | [_, _, _], _ => rfl
  have F18 : FunD K "leave" "Database.leave" (defArgs s_Database_leave) (defBody s_Database_leave) (defScope s_Database_leave) [.non] [("commits", .bl true)] f18 _ := ⟨⟨_, _, _, _, _, _, _, _, _, _, rfl, l18, c18, .inr ⟨by simp, TL, _, _, _, rfl, lTL, rfl, .cons rfl .nil⟩, .inr ⟨KL, rfl, fun q hq => by
    have hq := List.mem_singleton.mp hq
    subst hq
    exact ⟨_, hKL, rfl⟩⟩⟩, k18⟩
  obtain ⟨dsL, vL, b18⟩ := F18.binds (ps := ["self", "error", "commits"]) 1 0 (by simp) rfl (fun T D doc pm an cdv ct us its ks h1 h2 h3 => match us, its, ks, h1, h2, h3 with | [_], [_], [_], _, _, _ => ⟨_, rfl, _, _, _, _, _, _, rfl, rfl, rfl⟩) (by simp)
  have F19 := fun_mk (st := s_Database__is_holder) l19 c19 k19
  have b19 := F19.binds (ps := ["self", "record"]) fun _ _ _ _ _ _ us hl => match us, hl with | [_, _], _ => rfl
  have F20 := fun_mk (st := s_Database_holds) l20 c20 k20
  have b20 := F20.binds (ps := ["self", "record"]) fun _ _ _ _ _ _ us hl => match us, hl with | [_, _], _ => rfl
  have F21 := fun_mk (st := s_Database_has_suspended) l21 c21 k21
  have b21 := F21.binds (ps := ["self", "record"]) fun _ _ _ _ _ _ us hl => match us, hl with | [_, _], _ => rfl
  have F22 := fun_mk (st := s_Database__seen) l22 c22 k22
  have b22 := F22.binds (ps := ["self", "record"]) fun _ _ _ _ _ _ us hl => match us, hl with | [_, _], _ => rfl
  have F23 := fun_mk (st := s_Database___setitem__) l23 c23 k23
  have b23 := F23.binds (ps := ["self", "at", "worth"]) fun _ _ _ _ _ _ us hl => match us, hl with | [_, _, _], _ => rfl
  have F24 := fun_mk (st := s_Database___getitem__) l24 c24 k24
  have b24 := F24.binds (ps := ["self", "at"]) fun _ _ _ _ _ _ us hl => match us, hl with | [_, _], _ => rfl
  have F25 := fun_mk (st := s_Database___contains__) l25 c25 k25
  have b25 := F25.binds (ps := ["self", "x"]) fun _ _ _ _ _ _ us hl => match us, hl with | [_, _], _ => rfl
  have F26 := fun_mk (st := s_law_seen) l26 c26 k26
  have b26 := F26.binds (ps := ["db", "record", "due"]) fun _ _ _ _ _ _ us hl => match us, hl with | [_, _, _], _ => rfl
  have F27 := fun_mk (st := s_law_odd) l27 c27 k27
  have b27 := F27.binds (ps := ["db", "thing"]) fun _ _ _ _ _ _ us hl => match us, hl with | [_, _], _ => rfl
  have F28 := fun_mk (st := s_law_deed) l28 c28 k28
  have b28 := F28.binds (ps := ["pool", "db", "values", "depth"]) fun _ _ _ _ _ _ us hl => match us, hl with | [_, _, _, _], _ => rfl
  have F29 := fun_mk (st := s_law) l29 c29 k29
  refine ⟨PySem.W.fnOf "law" "law" (defArgs s_law) (defBody s_law) (defScope s_law) .none kV29 dc29 pm29 an29 cd29 ct29, fun s v => .of_eq rfl, fun base hbK hbG => ?_⟩
  have conM : ∀ nm z : Str, (nm, z) ∈ ([("JOIN", "join"), ("INNER", "inner"), ("APART", "apart"), ("MUST", "must"), ("EITHER", "either"), ("NEVER", "never"), ("OUTSIDE", "outside"), ("ALONE", "alone")] : List (Str × Str)) → ∃ u, ClX.CVal K CM (.type "type") nm (.str z) u := by
    intro nm z hz
    simp only [List.mem_cons, List.not_mem_nil, or_false, Prod.mk.injEq] at hz
    rcases hz with ⟨rfl, rfl⟩ | ⟨rfl, rfl⟩ | ⟨rfl, rfl⟩ | ⟨rfl, rfl⟩ | ⟨rfl, rfl⟩ | ⟨rfl, rfl⟩ | ⟨rfl, rfl⟩ | ⟨rfl, rfl⟩
    · exact ⟨_, m0, ⟨_, rfl⟩⟩
    · exact ⟨_, m1, ⟨_, rfl⟩⟩
    · exact ⟨_, m2, ⟨_, rfl⟩⟩
    · exact ⟨_, m3, ⟨_, rfl⟩⟩
    · exact ⟨_, m4, ⟨_, rfl⟩⟩
    · exact ⟨_, m5, ⟨_, rfl⟩⟩
    · exact ⟨_, m6, ⟨_, rfl⟩⟩
    · exact ⟨_, m7, ⟨_, rfl⟩⟩
  have M : ModeTxt K mg CM pM f4 tM (.type "type") := { mo := PySem.W.mg_of X G mo, rd := ⟨mrd, mga⟩, all := ⟨mall, rfl⟩, tup := ⟨_, _, _, mlt, rfl, rfl, (by show 8 ≤ sizeLine; decide), .cons ⟨_, rfl⟩ (.cons ⟨_, rfl⟩ (.cons ⟨_, rfl⟩ (.cons ⟨_, rfl⟩ (.cons ⟨_, rfl⟩ (.cons ⟨_, rfl⟩ (.cons ⟨_, rfl⟩ (.cons ⟨_, rfl⟩ .nil)))))))⟩, con := conM, sm := ⟨⟨mrd, mga⟩, msm, ⟨_, a4⟩, k4⟩ }
  have bIM := b4
  have B : DbTxt K mg (⟨CD, CT, CD, CD, CD⟩ : Cs) := ⟨⟨pgD, hdD, poD, saD⟩, ⟨pgT, hdT, poT, saT⟩, nD0, nD1, nD2, nD3, nD4, nD5, nT0, nT1, nT2, ⟨_, PySem.W.mg_of X G gC0, ⟨_, rfl⟩⟩, ⟨_, PySem.W.mg_of X G gC1, ⟨_, rfl⟩⟩, ⟨_, PySem.W.mg_of X G gC2, ⟨_, rfl⟩⟩⟩
  have W : WTxt K (⟨CD, CT, CD, CD, CD⟩ : Cs) CW := ⟨⟨pgW, hdW, poW, saW⟩, nW0, nW1, nW2, nW3, mT, sT⟩
  have OB : OexC K EB := ⟨⟨_, _, _, _, _, _, _, _, _, _, _, _, _, _, _, xEB, by rfl⟩, sEBa, eEBb, eEBt, kB⟩
  have XB : XfC K EB := ⟨sEBg, sEBh, eEBb, eEBh⟩
  have ON : OexC K EN := ⟨⟨_, _, _, _, _, _, _, _, _, _, _, _, _, _, _, xEN, by rfl⟩, sENa, eENb, eENt, kN⟩
  have XN : XfC K EN := ⟨sENg, sENh, eENb, eENh⟩
  have L : L3 K mg EB EN := ⟨PySem.W.mg_of X G gB, PySem.W.mg_of X G gN, XB, XN, nB, nN, exm_pair eEBb eEBc eEBt uEB, exm_pair eENb eENc eENt uEN⟩
  have D_law_pool : Df l.prog w K mg base 1 "_law_pool" ["script", "at"] (spPool K) := ⟨f0, _, ok_pool F0 T, PySem.W.mg_of X G a0, k0, b0⟩
  have D_law_draw : Df l.prog w K mg base 1 "_law_draw" ["pool", "many"] spDraw := ⟨f1, _, ok_draw F1 T, PySem.W.mg_of X G a1, k1, b1⟩
  have D_law_word : Df l.prog w K mg base 2 "_law_word" ["pool"] spWord := ⟨f2, _, ok_word F2 T D_law_draw, PySem.W.mg_of X G a2, k2, b2⟩
  have D_is_word : Df l.prog w K mg base 1 "is_word" ["thing"] (spIsWord K) := ⟨f3, _, ok_is_word F3 T, PySem.W.mg_of X G a3, k3, b3⟩
  have F_is_mode : FnOk l.prog w K mg base CX0 1 f4 _ ["thing"] (spIsMode K) := ok_is_mode F4 T M
  have E_B : EDf l.prog w K mg base 1 "BadWord" EB "word" fsB := ⟨f5, _, ⟨PySem.W.mg_of X G gB, OB, XB, a5, t5⟩, ok_badword F5 OB nB, b5⟩
  have E_N : EDf l.prog w K mg base 1 "NoRecord" EN "record" fsR := ⟨f6, _, ⟨PySem.W.mg_of X G gN, ON, XN, a6, t6⟩, ok_norecord F6 ON nN, b6⟩
  have C_W : CDfA l.prog w K mg base 1 "Write" CW ["self", "record", "value", "holder"] (spWr CW) := ⟨f7, _, ⟨mkW, a7, i7, kpW⟩, ok_wr_init F7 W, b7, PySem.W.mg_of X G gW⟩
  have C_T : CDf l.prog w K mg base 1 "Transaction" CT (spTrInit (⟨CD, CT, CD, CD, CD⟩ : Cs)) := ⟨f8, _, ⟨mkT, a8, i8, kpT⟩, ok_tr3_init F8 B, b8, PySem.W.mg_of X G gT⟩
  have C_D : CDf l.prog w K mg base 1 "Database" CD (spDb3 (⟨CD, CT, CD, CD, CD⟩ : Cs) CW) := ⟨f9, _, ⟨mkD, a9, i9, kpD⟩, ok_db3_init F9 B, b9, PySem.W.mg_of X G gDb⟩
  have M_enter_free : MDf l.prog w K mg base CX0 3 CD "_enter_free" ["self", "mode"] [] (spFree3 (⟨CD, CT, CD, CD, CD⟩ : Cs) CW) := ⟨f10, _, [], ok_free3 F10 B M C_T, ⟨a10, i10, k10⟩, b10, .nil⟩
  have M_enter_present : MDf l.prog w K mg base CX0 3 CD "_enter_present" ["self", "mode", "present"] [] (spPres3 (⟨CD, CT, CD, CD, CD⟩ : Cs) CW) := ⟨f11, _, [], ok_pres3 F11 B M, ⟨a11, i11, k11⟩, b11, .nil⟩
  have M_enter : MDf l.prog w K mg base CX0 4 CD "enter" ["self", "mode"] [] (spEnter3 (⟨CD, CT, CD, CD, CD⟩ : Cs) CW) := ⟨f12, _, [], ok_enter3 F12 B M F_is_mode bIM M_enter_free M_enter_present, ⟨a12, i12, k12⟩, b12, .nil⟩
  have P_reason : PDf l.prog w K mg base 1 CD "reason" (spLook (⟨CD, CT, CD, CD, CD⟩ : Cs) CW 0 fun _ _ v => v = .non) := ⟨p13, f13, _, ⟨a13, g13, t13, _, r13⟩, ok_reason3 F13 B, b13⟩
  have P_is_doomed : PDf l.prog w K mg base 3 CD "is_doomed" (spLook (⟨CD, CT, CD, CD, CD⟩ : Cs) CW 0 fun _ _ v => v = .bl false) := ⟨p14, f14, _, ⟨a14, g14, t14, _, r14⟩, ok_is_doomed3 F14 B P_reason, b14⟩
  have M_keep : MDf l.prog w K mg base CX0 1 CD "_keep" ["self", "transaction"] [] (spKeep3 (⟨CD, CT, CD, CD, CD⟩ : Cs) CW) := ⟨f15, _, [], ok_keep3 F15 B W, ⟨a15, i15, k15⟩, b15, .nil⟩
  have M_end_level : MDf l.prog w K mg base CX0 2 CD "_end_level" ["self", "transaction", "error", "commits"] [] (spEndL3 (⟨CD, CT, CD, CD, CD⟩ : Cs) CW) := ⟨f16, _, [], ok_end_level3 F16 B M_keep, ⟨a16, i16, k16⟩, b16, .nil⟩
  have M_end_block : MDf l.prog w K mg base CX0 3 CD "_end_block" ["self", "error", "commits"] [] (spEndB3 (⟨CD, CT, CD, CD, CD⟩ : Cs) CW) := ⟨f17, _, [], ok_end_block3 F17 B M_end_level, ⟨a17, i17, k17⟩, b17, .nil⟩
  have M_leave : MDf l.prog w K mg base CX0 4 CD "leave" ["self", "error", "commits"] [.non, .bl true] (spLeave3 (⟨CD, CT, CD, CD, CD⟩ : Cs) CW) := ⟨f18, _, dsL, ok_leave3 F18 T B D_is_word P_reason M_end_block, ⟨a18, i18, k18⟩, b18, vL⟩
  have M_is_holder : MDf l.prog w K mg base CX0 1 CD "_is_holder" ["self", "record"] [] (spLook (⟨CD, CT, CD, CD, CD⟩ : Cs) CW 1 fun S us v => ∃ r, us = [.str r] ∧ ofR (owO S.pr) r ≠ [] ∧ v = .bl true) := ⟨f19, _, [], ok_is_holder3 F19 B W, ⟨a19, i19, k19⟩, b19, .nil⟩
  have M_holds : MDf l.prog w K mg base CX0 2 CD "holds" ["self", "record"] [] (spLook (⟨CD, CT, CD, CD, CD⟩ : Cs) CW 1 fun S us v => ∃ r, us = [.str r] ∧ v = .bl (decide (ofR (owO S.pr) r ≠ []))) := ⟨f20, _, [], ok_holds3 F20 B M_is_holder, ⟨a20, i20, k20⟩, b20, .nil⟩
  have M_has_suspended : MDf l.prog w K mg base CX0 2 CD "has_suspended" ["self", "record"] [] (spLook (⟨CD, CT, CD, CD, CD⟩ : Cs) CW 1 fun S us v => ∃ r, us = [.str r] ∧ v = .bl false) := ⟨f21, _, [], ok_has_suspended3 F21 B M_is_holder, ⟨a21, i21, k21⟩, b21, .nil⟩
  have M_seen : MDf l.prog w K mg base CX0 3 CD "_seen" ["self", "record"] [] (spLook (⟨CD, CT, CD, CD, CD⟩ : Cs) CW 1 fun S us v => ∃ r, us = [.str r] ∧ v = seeV S r) := ⟨f22, _, [], ok_seen3 F22 B M_holds, ⟨a22, i22, k22⟩, b22, .nil⟩
  have C_set : SpD l.prog w K mg base CX0 5 CD "__setitem__" (spSet3 (⟨CD, CT, CD, CD, CD⟩ : Cs) CW) := ⟨f23, a23, i23, fi1, ((ok_set3 F23 B W D_is_word P_is_doomed M_has_suspended C_W).raw b23 .nil).imp fun vs H Q E h => by
    rw [List.append_nil]
    exact h⟩
  have C_at : SpD l.prog w K mg base (L2.CX l.prog w) 4 CD "__getitem__" (spAt3 K (⟨CD, CT, CD, CD, CD⟩ : Cs) CW EB EN) := ⟨f24, a24, i24, fi2, ((ok_at3 F24 B W D_is_word M_seen E_B kB E_N kN).raw b24 .nil).imp fun vs H Q E h => by
    rw [List.append_nil]
    exact h⟩
  have C_in : SpD l.prog w K mg base CX0 4 CD "__contains__" (spIn3 K (⟨CD, CT, CD, CD, CD⟩ : Cs) CW) := ⟨f25, a25, i25, fi3, ((ok_in3 F25 B D_is_word M_seen).raw b25 .nil).imp fun vs H Q E h => by
    rw [List.append_nil]
    exact h⟩
  have D_law_seen : Df l.prog w K mg base 6 "_law_seen" ["db", "record", "due"] (spSeen3 (⟨CD, CT, CD, CD, CD⟩ : Cs) CW) := ⟨f26, _, ok_law_seen F26 T B L C_in C_at, PySem.W.mg_of X G a26, k26, b26⟩
  have D_law_odd : Df l.prog w K mg base 6 "_law_odd" ["db", "thing"] (spOdd3 K (⟨CD, CT, CD, CD, CD⟩ : Cs) CW) := ⟨f27, _, ok_law_odd F27 T B L C_in C_at, PySem.W.mg_of X G a27, k27, b27⟩
  have D_law_deed : Df l.prog w K mg base 7 "_law_deed" ["pool", "db", "values", "depth"] (spDeed (⟨CD, CT, CD, CD, CD⟩ : Cs) CW) := ⟨f28, _, ok_law_deed F28 T B nsq D_law_draw D_law_word M_enter M_leave C_set, PySem.W.mg_of X G a28, k28, b28⟩
  exact ok_law3 (c := (⟨CD, CT, CD, CD, CD⟩ : Cs)) (CW := CW) F29 T D_law_pool D_law_draw D_law_word C_D D_law_deed D_law_seen D_law_odd
theorem walk {l : PySem.W.OpenLaw} {q : Program} {loose : List Str} {XP : (Str → Option Value) → Heap → Prop} {YP : World → Heap → Prop} {d : DefRec} {K : Params → PySem.W.Frag} (hn : l.most = some 63) (hdf : d.params.defaults = [])
    (hY : ∀ (w : World) (h : Heap), YP w h → (K w.params).In h)
    (F : ∀ (w : World) (mg : Str → Option Value) (fa : Addr) (h : Heap), (K w.params).In h → h.Ns mainGlobals mg → mg d.name = some (.ref fa) →
      ∃ fd : FuncData, (∀ (s : Shared) (u : Value), BindsTo s fd ⟨[u], []⟩ [("script", u)]) ∧ ∀ base : Heap, (K w.params).In base → base.Ns mainGlobals mg → FnOk l.prog w (K w.params) mg base CX0 8 fa fd ["script"] (spLaw (K w.params))) :
    PySem.W.WalkO q loose XP YP l.row.toRowW d [] (fun f vs => PySem.call f vs) :=
  L2.walk_of (n := 63) (k := 8) (x := "script") (CX := fun _ => CX0) (sp := fun w => spLaw (K w.params)) hn (by decide) hdf ⟨rfl, by decide, by decide⟩ hY F (fun _ _ a ns hl _ hS => ⟨a, ns, rfl, hS, hl, fun _ => rfl⟩) fun _ _ _ _ _ z => z
end IC
open PySem PySem.W PyProof.Rows
set_option maxRecDepth 100000 in
set_option maxHeartbeats 0 in
theorem PySem.Challenge.cw_innercommits_k03_values_of_records_holds : PySem.Challenge.rw_innercommits_k03_values_of_records.Holds := by
  w_on; o_law; k_head; (case hw => w_witness2)
  k_fill
  refine IC.walk (l := PySem.Challenge.rw_innercommits_k03_values_of_records) rfl rfl (fun w h Y => PySem.W.kIn_of Y) ?F
  case F =>
    intro w mg fa h KX G hmg
    refine' IC.all_mk KX G hmg ?a0 ?l0 ?c0 ?k0 ?a1 ?l1 ?c1 ?k1 ?a2 ?l2 ?c2 ?k2 ?a3 ?l3 ?c3 ?k3 ?a4 ?l4 ?c4 ?k4 ?a5 ?l5 ?c5 ?k5 ?t5 ?a6 ?l6 ?c6 ?k6 ?t6 ?a7 ?l7 ?c7 ?k7 ?i7 ?a8 ?l8 ?c8 ?k8 ?i8 ?a9 ?l9 ?c9 ?k9 ?i9 ?a10 ?l10 ?c10 ?k10 ?i10 ?a11 ?l11 ?c11 ?k11 ?i11 ?a12 ?l12 ?c12 ?k12 ?i12 ?a13 ?g13 ?t13 ?r13 ?l13 ?c13 ?k13 ?a14 ?g14 ?t14 ?r14 ?l14 ?c14 ?k14 ?a15 ?l15 ?c15 ?k15 ?i15 ?a16 ?l16 ?c16 ?k16 ?i16 ?a17 ?l17 ?c17 ?k17 ?i17 ?a18 ?l18 ?c18 ?k18 ?i18 ?a19 ?l19 ?c19 ?k19 ?i19 ?a20 ?l20 ?c20 ?k20 ?i20 ?a21 ?l21 ?c21 ?k21 ?i21 ?a22 ?l22 ?c22 ?k22 ?i22 ?a23 ?l23 ?c23 ?k23 ?i23 ?a24 ?l24 ?c24 ?k24 ?i24 ?a25 ?l25 ?c25 ?k25 ?i25 ?a26 ?l26 ?c26 ?k26 ?a27 ?l27 ?c27 ?k27 ?a28 ?l28 ?c28 ?k28 ?a29 ?l29 ?c29 ?k29 ?z_int ?z_len ?z_abs ?z_range ?z_max ?z_min ?z_isi ?z_str ?z_all ?z_sorted ?z_bool ?mo ?mrd ?mga ?mall ?mlt ?m0 ?m1 ?m2 ?m3 ?m4 ?m5 ?m6 ?m7 ?msm ?gDb ?gT ?gW ?gB ?xEB ?sEBa ?sEBg ?sEBh ?nB ?kB ?eEBb ?eEBt ?eEBh ?eEBc ?uEB ?gN ?xEN ?sENa ?sENg ?sENh ?nN ?kN ?eENb ?eENt ?eENh ?eENc ?uEN ?pgD ?hdD ?poD ?saD ?mkD ?kpD ?pgT ?hdT ?poT ?saT ?mkT ?kpT ?pgW ?hdW ?poW ?saW ?mkW ?kpW ?nD0 ?nD1 ?nD2 ?nD3 ?nD4 ?nD5 ?nT0 ?nT1 ?nT2 ?nW0 ?nW1 ?nW2 ?nW3 ?mT ?sT ?nsq ?gC0 ?gC1 ?gC2 ?lTL ?hKL ?fi1 ?fi2 ?fi3
    (case mo => k_is)
    (case mrd => k_is)
    (case mga => k_is)
    (case mall => k_is)
    (case mlt => k_is)
    (case m0 => k_is)
    (case m1 => k_is)
    (case m2 => k_is)
    (case m3 => k_is)
    (case m4 => k_is)
    (case m5 => k_is)
    (case m6 => k_is)
    (case m7 => k_is)
    (case msm => k_is)
    (case gDb => k_is)
    (case gT => k_is)
    (case gW => k_is)
    (case gB => k_is)
    (case xEB => k_is)
    (case sEBa => k_is)
    (case sEBg => k_is)
    (case sEBh => k_is)
    (case nB => k_is)
    (case kB => k_is)
    (case eEBb => k_is)
    (case eEBt => k_is)
    (case eEBh => k_is)
    (case eEBc => k_is)
    (case uEB => k_is)
    (case gN => k_is)
    (case xEN => k_is)
    (case sENa => k_is)
    (case sENg => k_is)
    (case sENh => k_is)
    (case nN => k_is)
    (case kN => k_is)
    (case eENb => k_is)
    (case eENt => k_is)
    (case eENh => k_is)
    (case eENc => k_is)
    (case uEN => k_is)
    (case pgD => k_is)
    (case hdD => k_is)
    (case poD => k_is)
    (case saD => k_is)
    (case mkD => k_is)
    (case kpD => k_is)
    (case pgT => k_is)
    (case hdT => k_is)
    (case poT => k_is)
    (case saT => k_is)
    (case mkT => k_is)
    (case kpT => k_is)
    (case pgW => k_is)
    (case hdW => k_is)
    (case poW => k_is)
    (case saW => k_is)
    (case mkW => k_is)
    (case kpW => k_is)
    (case nD0 => k_is)
    (case nD1 => k_is)
    (case nD2 => k_is)
    (case nD3 => k_is)
    (case nD4 => k_is)
    (case nD5 => k_is)
    (case nT0 => k_is)
    (case nT1 => k_is)
    (case nT2 => k_is)
    (case nW0 => k_is)
    (case nW1 => k_is)
    (case nW2 => k_is)
    (case nW3 => k_is)
    (case mT => k_is)
    (case sT => k_is)
    (case nsq => k_is)
    (case gC0 => k_is)
    (case gC1 => k_is)
    (case gC2 => k_is)
    (case a0 => k_is)
    (case l0 => k_is)
    (case c0 => k_is)
    (case k0 => k_is)
    (case a1 => k_is)
    (case l1 => k_is)
    (case c1 => k_is)
    (case k1 => k_is)
    (case a2 => k_is)
    (case l2 => k_is)
    (case c2 => k_is)
    (case k2 => k_is)
    (case a3 => k_is)
    (case l3 => k_is)
    (case c3 => k_is)
    (case k3 => k_is)
    (case a4 => k_is)
    (case l4 => k_is)
    (case c4 => k_is)
    (case k4 => k_is)
    (case a5 => k_is)
    (case l5 => k_is)
    (case c5 => k_is)
    (case k5 => k_is)
    (case t5 => k_is)
    (case a6 => k_is)
    (case l6 => k_is)
    (case c6 => k_is)
    (case k6 => k_is)
    (case t6 => k_is)
    (case a7 => k_is)
    (case l7 => k_is)
    (case c7 => k_is)
    (case k7 => k_is)
    (case i7 => k_is)
    (case a8 => k_is)
    (case l8 => k_is)
    (case c8 => k_is)
    (case k8 => k_is)
    (case i8 => k_is)
    (case a9 => k_is)
    (case l9 => k_is)
    (case c9 => k_is)
    (case k9 => k_is)
    (case i9 => k_is)
    (case a10 => k_is)
    (case l10 => k_is)
    (case c10 => k_is)
    (case k10 => k_is)
    (case i10 => k_is)
    (case a11 => k_is)
    (case l11 => k_is)
    (case c11 => k_is)
    (case k11 => k_is)
    (case i11 => k_is)
    (case a12 => k_is)
    (case l12 => k_is)
    (case c12 => k_is)
    (case k12 => k_is)
    (case i12 => k_is)
    (case a13 => k_is)
    (case g13 => k_is)
    (case t13 => k_is)
    (case r13 => k_is)
    (case l13 => k_is)
    (case c13 => k_is)
    (case k13 => k_is)
    (case a14 => k_is)
    (case g14 => k_is)
    (case t14 => k_is)
    (case r14 => k_is)
    (case l14 => k_is)
    (case c14 => k_is)
    (case k14 => k_is)
    (case a15 => k_is)
    (case l15 => k_is)
    (case c15 => k_is)
    (case k15 => k_is)
    (case i15 => k_is)
    (case a16 => k_is)
    (case l16 => k_is)
    (case c16 => k_is)
    (case k16 => k_is)
    (case i16 => k_is)
    (case a17 => k_is)
    (case l17 => k_is)
    (case c17 => k_is)
    (case k17 => k_is)
    (case i17 => k_is)
    (case a18 => k_is)
    (case l18 => k_is)
    (case c18 => k_is)
    (case k18 => k_is)
    (case i18 => k_is)
    (case a19 => k_is)
    (case l19 => k_is)
    (case c19 => k_is)
    (case k19 => k_is)
    (case i19 => k_is)
    (case a20 => k_is)
    (case l20 => k_is)
    (case c20 => k_is)
    (case k20 => k_is)
    (case i20 => k_is)
    (case a21 => k_is)
    (case l21 => k_is)
    (case c21 => k_is)
    (case k21 => k_is)
    (case i21 => k_is)
    (case a22 => k_is)
    (case l22 => k_is)
    (case c22 => k_is)
    (case k22 => k_is)
    (case i22 => k_is)
    (case a23 => k_is)
    (case l23 => k_is)
    (case c23 => k_is)
    (case k23 => k_is)
    (case i23 => k_is)
    (case a24 => k_is)
    (case l24 => k_is)
    (case c24 => k_is)
    (case k24 => k_is)
    (case i24 => k_is)
    (case a25 => k_is)
    (case l25 => k_is)
    (case c25 => k_is)
    (case k25 => k_is)
    (case i25 => k_is)
    (case a26 => k_is)
    (case l26 => k_is)
    (case c26 => k_is)
    (case k26 => k_is)
    (case a27 => k_is)
    (case l27 => k_is)
    (case c27 => k_is)
    (case k27 => k_is)
    (case a28 => k_is)
    (case l28 => k_is)
    (case c28 => k_is)
    (case k28 => k_is)
    (case a29 => k_is)
    (case l29 => k_is)
    (case c29 => k_is)
    (case k29 => k_is)
    (case z_int => k_is)
    (case z_len => k_is)
    (case z_abs => k_is)
    (case z_range => k_is)
    (case z_max => k_is)
    (case z_min => k_is)
    (case z_isi => k_is)
    (case z_str => k_is)
    (case z_all => k_is)
    (case z_sorted => k_is)
    (case z_bool => k_is)
    (case lTL => k_is)
    (case hKL => k_is)
    (case fi1 => k_is)
    (case fi2 => k_is)
    (case fi3 => k_is)
#print axioms PySem.Challenge.cw_innercommits_k03_values_of_records_holds
