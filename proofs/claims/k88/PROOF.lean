import PyProof.Rows.All
import Wide.All
import OpenK.AllK
import Wide.FinOn
import HandS.ForMost
import HandS.Wide
import HandS.IsInst
import HandS.Style
import HandS.Flow
import HandS.Evl
import HandS.Walk
import HandS.Codes
import PyProof.Rows.ReprR
import HandS.Exc
import HandS.TryMany
import HandS.ExcInit
import HandS.ExcField
import HandS.Property
import HandS.Defaults
import HandS.ClsMeth
import PyProof.ListStr
import HandS.CallSlots
import HandS.WordsExc
import PyProof.ReprBulk
import HandS.HotCalls
import HandS.ExcOwn
import HandS.ExcValue
import KE.KExcIs
import HandS.MakeKw
import PySem.Challenge.RW_innercommits_k88_errors_made_by_hand
set_option Elab.async false
set_option linter.all false
set_option maxRecDepth 100000
set_option maxHeartbeats 4000000
namespace IC
open PySem L2 TL
/-! ### heaps: all but the addresses of l stand as they stood -/
def Kp (l : List Addr) (H H' : Hp) : Prop := ∀ b o, H b = some o → b ∉ l → H' b = some o
theorem Kp.refl (l : List Addr) (H : Hp) : Kp l H H := fun _ _ e _ => e
theorem Kp.trans {l : List Addr} {H H1 H2 : Hp} (a : Kp l H H1) (b : Kp l H1 H2) : Kp l H H2 := fun c o e h => b c o (a c o e h) h
theorem Kp.same {l : List Addr} {H H' : Hp} (a : Same H H') : Kp l H H' := fun b o e _ => a b o e
theorem Kp.at_ {l : List Addr} {H : Hp} {p : Addr} {o : HO} (h : p ∈ l) : Kp l H (upd H p o) := fun b u e hb => by
  have q : b ≠ p := fun z => hb (by rw [z]; exact h)
  rw [upd_ne q]; exact e
theorem Kp.new {l : List Addr} {H : Hp} {p : Addr} {o : HO} (h : H p = none) : Kp l H (upd H p o) := fun b u e _ => by
  rw [upd_ne (ne_of_none e h)]; exact e
theorem Kp.mut {l : List Addr} {H H' : Hp} {p : Addr} {o : HO} (a : Kp l H H') (h : H p = none) : Kp l H (upd H' p o) := fun b u e hb => by
  rw [upd_ne (ne_of_none e h)]; exact a b u e hb
theorem Kp.mutAt {l : List Addr} {H H' : Hp} {p : Addr} {o : HO} (a : Kp l H H') (h : p ∈ l) : Kp l H (upd H' p o) := a.trans (Kp.at_ h)
theorem none_of {H : Hp} {p D : Addr} {o : HO} (h : upd H p o D = none) : p ≠ D ∧ H D = none := by
  have q : p ≠ D := ne_of_none upd_same h
  rw [upd_ne q.symm] at h
  exact ⟨q, h⟩
theorem Same.new {H : Hp} {p : Addr} {o : HO} (h : H p = none) : Same H (upd H p o) := fun b u e => by
  rw [upd_ne (ne_of_none e h)]; exact e

/-! ### the pool of numbers -/
def pl (a b c : Int) : List V := [.int a, .int b, .int c]
def PoolAt (H : Hp) (p : Addr) (n : Int) : Prop := ∃ a b c : Int, H p = some (.lst (pl a b c)) ∧ 0 ≤ a ∧ 0 ≤ b ∧ b < 2 ^ 63 ∧ 0 ≤ c ∧ c ≤ n
theorem PoolAt.up {H : Hp} {p : Addr} {n m : Int} (h : PoolAt H p n) (e : n ≤ m) : PoolAt H p m := by
  obtain ⟨a, b, c, h1, h2, h3, h4, h5, h6⟩ := h
  exact ⟨a, b, c, h1, h2, h3, h4, h5, Int.le_trans h6 e⟩
theorem PoolAt.mv {H H' : Hp} {p : Addr} {n : Int} (h : PoolAt H p n) (e : ∀ o, H p = some o → H' p = some o) : PoolAt H' p n := by
  obtain ⟨a, b, c, h1, h⟩ := h
  exact ⟨a, b, c, e _ h1, h⟩
/-- _law_draw(pool, many): a number below many; only the pool changes -/
def spDraw : Sp := fun vs H Q _ => ∃ (p : Addr) (m n : Int), vs = [.ref p, .int m] ∧ PoolAt H p n ∧ n < 1000000000 ∧ 0 < m ∧ m.natAbs < 2 ^ 200 ∧
  ∀ (d : Int) (o : HO), 0 ≤ d → d < m → PoolAt (upd H p o) p (n + 1) → Q (.int d) (upd H p o)
/-- _law_pool(script, at): a new pool -/
def spPool (K : PySem.W.Frag) : Sp := fun vs H Q _ => ∃ (a : Addr) (ns : List Int) (j : Nat), vs = [.ref a, .int j] ∧ SqL K H a (ns.map V.int) ∧ j < 64 ∧
  ∀ (p : Addr) (o : HO), H p = none → PoolAt (upd H p o) p 0 → Q (.ref p) (upd H p o)

/-- a def of the text by its name: it keeps the promise sp -/
structure Df (P : Program) (w : World) (K : PySem.W.Frag) (mg : Str → Option Value) (base : Heap) (k : Nat) (x : Str) (ps : List Str) (sp : Sp) : Prop where
  ex : ∃ (f : Addr) (fd : FuncData), FnOk P w K mg base CX0 k f fd ps sp ∧ mg x = some (.ref f) ∧ PySem.W.keepIn K (.ref f) = true ∧ Binds K fd ps []
theorem pe_df {X : Cx} {k j : Nat} {x : Str} {ps : List Str} {sp : Sp} {e : Expr} {es : List Expr} {t : TA} {p pos : Pos} (D : Df X.prog X.w X.K X.mg X.base k x ps sp) (hr : Room j X.A) (hk : k ≤ j) (hg : Gl X x)
    (ha : PA X (e :: es) t) (hdb : (x == ("__debug__" : Str)) = false := by decide) (he : starEach (e :: es) X.env = (false, eval e X.env) :: starEach es X.env := by rfl) (hpl : (backTo pos (starEach es X.env)).any (·.1) = false := by rfl) :
    PE X (.Call (.Name x p) (e :: es) [] pos) (tCall sp [] E0 t) := by
  obtain ⟨f, fd, F, hm, hkp, hb⟩ := D.ex
  exact pe_call F (hr.mono hk) hg hm hkp hb .nil pass0 ha hdb he hpl

/-! ### words -/
def Lt (c : Nat) : Prop := 97 ≤ c ∧ c ≤ 122
def IsW (z : Str) : Prop := 1 ≤ (tl z).length ∧ (tl z).length ≤ 8 ∧ ∀ c ∈ tl z, Lt c
def sgn (c : Nat) : Str := ⟨#[c]⟩
theorem joinL_one : ∀ cs : List Nat, joinL [] (cs.map fun c => [c]) = cs
  | [] => rfl
  | [c] => rfl
  | c :: d :: r => by
    show [c] ++ ([] ++ joinL [] ((d :: r).map fun c => [c])) = c :: d :: r
    rw [joinL_one (d :: r)]
    rfl
theorem tl_joined (cs : List Nat) : tl (Txt.join (Str.ofString "") (cs.map sgn)) = cs := by
  rw [join_eq, tl_join, List.map_map]
  exact joinL_one cs
def spWord : Sp := fun vs H Q _ => ∃ (p : Addr) (n : Int), vs = [.ref p] ∧ PoolAt H p n ∧ n < 900000000 ∧
  ∀ (z : Str) (H' : Hp), IsW z → PoolAt H' p (n + 9) → Kp [p] H H' → Q (.str z) H'
theorem abc_at (d : Int) (h0 : 0 ≤ d) (h1 : d < 26) : ∃ c, atI (Str.ofString "abcdefghijklmnopqrstuvwxyz").cps.toList d = some c ∧ Lt c := by
  have e : (Str.ofString "abcdefghijklmnopqrstuvwxyz").cps.toList = [97,98,99,100,101,102,103,104,105,106,107,108,109,110,111,112,113,114,115,116,117,118,119,120,121,122] := by decide +kernel
  rw [e]
  obtain ⟨j, rfl⟩ : ∃ j : Nat, d = j := ⟨d.toNat, by omega⟩
  have hj : j < 26 := by omega
  refine ⟨97 + j, atI_nat ?_, by unfold Lt; omega⟩
  have all : ∀ k : Fin 26, ([97,98,99,100,101,102,103,104,105,106,107,108,109,110,111,112,113,114,115,116,117,118,119,120,121,122] : List Nat)[k.val]? = some (97 + k.val) := by decide
  exact all ⟨j, hj⟩
/-- no text: a value of another type -/
def Oth (K : PySem.W.Frag) (H : Hp) (v : V) : Prop := ∃ T : String, TyX K H v (.type T) ∧ kitB T "str" = some false
def lB (c : Nat) : Bool := decide (97 ≤ c) && decide (c ≤ 122)
/-- is the text a word -/
def wB (z : Str) : Bool := decide (1 ≤ (tl z).length) && (decide ((tl z).length ≤ 8) && (tl z).all lB)
def spIsWord (K : PySem.W.Frag) : Sp := fun vs H Q _ => ∃ v : V, vs = [v] ∧ ((∃ z : Str, v = .str z ∧ (tl z).length ≤ 1000 ∧ ∀ H', Same H H' → Q (.bl (wB z)) H') ∨ (Oth K H v ∧ ∀ H', Same H H' → Q (.bl false) H'))
theorem len_le {z : Str} (h : (tl z).length ≤ 1000) : z.length ≤ sizeLine := by
  rw [len_tl]; exact Nat.le_of_lt (small1000 h)
theorem tl_one (c : Nat) : tl (⟨#[c]⟩ : Str) = [c] := rfl
theorem one_lt (c d : Nat) : ([c] < [d]) ↔ ¬ d ≤ c := by
  rw [List.cons_lt_cons_iff]
  simp
theorem lt_a (c : Nat) : decide ((⟨#[c]⟩ : Str).cps.toList < (Str.ofString "a").cps.toList) = !decide (97 ≤ c) := by
  have e : (Str.ofString "a").cps.toList = [97] := by decide +kernel
  rw [e]
  show decide ([c] < [97]) = _
  rw [Bool.eq_iff_iff, decide_eq_true_iff, Bool.not_eq_true', decide_eq_false_iff_not]
  exact one_lt c 97
theorem z_lt (c : Nat) : decide ((Str.ofString "z").cps.toList < (⟨#[c]⟩ : Str).cps.toList) = !decide (c ≤ 122) := by
  have e : (Str.ofString "z").cps.toList = [122] := by decide +kernel
  rw [e]
  show decide ([122] < [c]) = _
  rw [Bool.eq_iff_iff, decide_eq_true_iff, Bool.not_eq_true', decide_eq_false_iff_not]
  exact one_lt 122 c
theorem abc_mem (c : Nat) : decide (c ∈ (Str.ofString "abcdefghijklmnopqrstuvwxyz").cps.toList) = lB c := by
  have e : (Str.ofString "abcdefghijklmnopqrstuvwxyz").cps.toList = [97,98,99,100,101,102,103,104,105,106,107,108,109,110,111,112,113,114,115,116,117,118,119,120,121,122] := by decide +kernel
  rw [e]
  unfold lB
  rw [Bool.eq_iff_iff]
  simp
  omega
theorem shaped_all {xs : List PyData} (h : ∀ x ∈ xs, PyData.canLay0 x = true ∧ PyData.depth x ≤ 20) : PyData.canLayAll0 xs = true ∧ PyData.depthAll xs ≤ 20 := by
  induction xs with
  | nil => exact ⟨rfl, Nat.zero_le _⟩
  | cons x r ih =>
    have h1 := h x List.mem_cons_self
    have h2 := ih fun y hy => h y (List.mem_cons_of_mem _ hy)
    refine ⟨?_, ?_⟩
    · show (PyData.canLay0 x && PyData.canLayAll0 r) = true
      rw [h1.1, h2.1]
      rfl
    · show max (PyData.depth x) (PyData.depthAll r) ≤ 20
      omega
theorem shaped_list {xs : List PyData} (h : ∀ x ∈ xs, PyData.canLay0 x = true ∧ PyData.depth x ≤ 20) : SeqAt.shaped (.list xs) = true := by
  obtain ⟨h1, h2⟩ := shaped_all h
  show (PyData.canLay0 (.list xs) && decide (PyData.depth (.list xs) ≤ 64)) = true
  have e1 : PyData.canLay0 (.list xs) = true := h1
  have e2 : PyData.depth (.list xs) = PyData.depthAll xs + 1 := rfl
  rw [e1, e2, decide_eq_true (by omega)]
  rfl
theorem dpAll_strs {K : PySem.W.Frag} {H : Hp} : ∀ zs : List Str, DpAll K H (zs.map V.str) (zs.map PyData.str)
  | [] => .nil
  | z :: r => .cons (.str z) (dpAll_strs r)
def Okc (c : Nat) : Prop := c < 1114112
theorem strOk_of {z : Str} (h : ∀ c ∈ tl z, Okc c) : PyData.strOk z = true := by
  unfold PyData.strOk
  rw [Array.all_eq_true_iff_forall_mem]
  intro c hc
  exact decide_eq_true (h c (by simpa [tl] using hc))
theorem shaped_strs (zs : List Str) (h : ∀ z ∈ zs, ∀ c ∈ tl z, Okc c) : SeqAt.shaped (.list (zs.map PyData.str)) = true := shaped_list fun x hx => by
  obtain ⟨z, hz, rfl⟩ := List.mem_map.mp hx
  exact ⟨strOk_of (h z hz), Nat.zero_le _⟩
/-- a comprehension over range(n) whose element is a drawn letter -/
theorem lc_draw {te : TE} {gi : Nat} {σ : L2.St} {H1 : Hp} {D p : Addr} {Qd : Hp → Prop} (n : Nat) (m : Int) (hn : n ≤ 1000) (hp : PoolAt H1 p m) (hD : H1 D = none)
    (hte : ∀ (x : V) (m' : Int) (H : Hp) (Q : VK), PoolAt H p m' → m' ≤ m + n → (∀ c o, Lt c → PoolAt (upd H p o) p (m' + 1) → Q (.str (sgn c)) (upd H p o)) → te ((σ.set gi none).set gi (some x)) H Q)
    (hd : ∀ (cs : List Nat) (H' : Hp), cs.length = n → (∀ c ∈ cs, Lt c) → H' D = some (.lst ((cs.map sgn).map V.str)) → PoolAt H' p (m + n) → Kp [p] H1 H' → Qd H') :
    ∃ W : Nat → Nat → Hp → Prop, (∃ m, W 0 m (upd H1 D (.lst []))) ∧ ∀ i m H, W i m H →
      ((Itr 0 n).stop i H ∧ Qd H) ∨ ((Itr 0 n).go i H ∧ ∃ Nx : Hp → Prop, (∀ H', Nx H' → ∃ m', m' < m ∧ W (i + 1) m' H') ∧ ∀ x H', (Itr 0 n).yld i H x H' → gName gi x (wipe σ [gi]) H' fun σ2 H2 => wipe σ2 [gi] = wipe σ [gi] ∧ tYes σ2 H2 fun b H3 =>
        if b = true then te σ2 H3 fun y H4 => ∃ acc, H4 D = some (.lst acc) ∧ acc.length < sizeLine ∧ Nx (upd H4 D (.lst (acc ++ [y]))) else Nx H3) := by
  have hpD : p ≠ D := by
    obtain ⟨a, b, c, e, _⟩ := hp
    exact ne_of_none e hD
  refine lc_range (lo := 0) (n := n) (fun i H' => ∃ cs : List Nat, cs.length = i ∧ (∀ c ∈ cs, Lt c) ∧ H' D = some (.lst ((cs.map sgn).map V.str)) ∧ PoolAt H' p (m + i) ∧ Kp [p] H1 H')
    ⟨[], rfl, by simp, upd_same, (hp.mv fun u e => by rw [upd_ne hpD]; exact e).up (by omega), Kp.new hD⟩ ?_ ?_
  · rintro i H' hi ⟨cs, hl, hc, hcD, hp2, kp⟩
    refine ⟨by simp [wipe], ?_⟩
    refine hte _ (m + i) H' _ hp2 (by omega) fun c o hL hp3 => ?_
    refine ⟨_, (by rw [upd_ne hpD.symm]; exact hcD), small1000 (by rw [List.length_map, List.length_map]; omega), cs ++ [c], by simp [hl], ?_, ?_, ?_, (kp.mutAt (by simp)).mut hD⟩
    · intro x hx
      rcases List.mem_append.mp hx with hx | hx
      · exact hc x hx
      · rw [List.mem_singleton.mp hx]; exact hL
    · rw [upd_same, List.map_append, List.map_append]
      rfl
    · exact (hp3.mv fun u q => by rw [upd_ne hpD]; exact q).up (by omega)
  · rintro H' ⟨cs, hl, hc, hcD, hp2, kp⟩
    exact hd cs H' hl hc hcD hp2 kp
theorem sum_sgn (cs : List Nat) : (List.map (fun z : Str => z.length) (cs.map sgn)).sum = cs.length := by
  rw [List.map_map]
  induction cs with
  | nil => rfl
  | cons c r ih => rw [List.map_cons, List.sum_cons, ih, List.length_cons]; show 1 + r.length = r.length + 1; omega
theorem Lt.ok {c : Nat} (h : Lt c) : Okc c := by
  have := h.2
  unfold Okc
  omega
/-- a text of few signs, or a thing of another kind -/
def Txt1 (z : Str) : Prop := (tl z).length ≤ 1000 ∧ ∀ c ∈ tl z, Okc c
def Thing (K : PySem.W.Frag) (H : Hp) (v : V) : Prop := (∃ z : Str, v = .str z ∧ Txt1 z) ∨ Oth K H v
theorem cutS_mem (z : Str) (lo hi : Option Int) : ∀ c ∈ tl (cutS z lo hi), c ∈ tl z := by
  intro c hc
  exact List.mem_of_mem_drop (List.mem_of_mem_take hc)
theorem oth_int {K : PySem.W.Frag} {H : Hp} {i : Int} : Oth K H (.int i) := ⟨"int", .base (.int i), by decide +kernel⟩
theorem oth_bl {K : PySem.W.Frag} {H : Hp} {b : Bool} : Oth K H (.bl b) := ⟨"bool", .base (.bl b), by decide +kernel⟩
theorem oth_non {K : PySem.W.Frag} {H : Hp} : Oth K H .non := ⟨"NoneType", .base .non, by decide +kernel⟩
theorem oth_lst {K : PySem.W.Frag} {H : Hp} {a : Addr} {xs : List V} (h : H a = some (.lst xs)) : Oth K H (.ref a) := ⟨"list", .base (.lst h), by decide +kernel⟩
theorem oth_tup {K : PySem.W.Frag} {H : Hp} {a : Addr} {xs : List V} (h : H a = some (.tup xs)) : Oth K H (.ref a) := ⟨"tuple", .base (.tup h), by decide +kernel⟩
theorem Kp.newAt {l : List Addr} {H H' : Hp} {p : Addr} {o : HO} (a : Kp l H H') (h : H' p = none) : Kp l H (upd H' p o) := a.trans (Kp.new h)
theorem Same.kp {H0 H H' : Hp} {p : Addr} (a : Same H0 H) (k : Kp [p] H H') (h : H0 p = none) : Same H0 H' := fun b o e => k b o (a b o e) (by
  intro z
  have q := List.mem_singleton.mp z
  rw [q, h] at e
  cases e)
theorem Oth.mv {K : PySem.W.Frag} {H H' : Hp} {v : V} (h : Oth K H v) (s : Same H H') : Oth K H' v := by
  obtain ⟨T, ty, kb⟩ := h
  refine ⟨T, ?_, kb⟩
  cases ty with
  | base b =>
    generalize ht : Value.type T = t at b
    cases b with
    | non => injection ht with ht; subst ht; exact .base .non
    | bl x => injection ht with ht; subst ht; exact .base (.bl x)
    | int i => injection ht with ht; subst ht; exact .base (.int i)
    | str x => injection ht with ht; subst ht; exact .base (.str x)
    | flt x => injection ht with ht; subst ht; exact .base (.flt x)
    | lst e => injection ht with ht; subst ht; exact .base (.lst (s _ _ e))
    | frz e => injection ht with ht; subst ht; exact .base (.frz (s _ _ e))
    | tup e => injection ht with ht; subst ht; exact .base (.tup (s _ _ e))
    | dK e => injection ht with ht; subst ht; exact .base (.dK (s _ _ e))
    | dT e => injection ht with ht; subst ht; exact .base (.dT (s _ _ e))
    | ins e => cases ht
  | byt b => exact .byt b
  | set e => exact .set (s _ _ e)
  | kList e c => exact .kList e c
  | kTuple e c => exact .kTuple e c
  | kDict e c => exact .kDict e c
  | fTuple e => exact .fTuple (s _ _ e)
  | fDict e => exact .fDict (s _ _ e)
def spLaw (K : PySem.W.Frag) : Sp := fun vs H Q _ => ∃ (a : Addr) (ns : List Int), vs = [.ref a] ∧ SqL K H a (ns.map V.int) ∧ ns.length ≤ 63 ∧ ∀ H', Q (.bl true) H'
end IC
namespace IC
open PySem L2 TL
/-! ### a static method called by its class; list(text) -/
/-- C.m is a static method: its record at p, its def at g -/
structure SMet (K : PySem.W.Frag) (C : Addr) (mc : Value) (m : Str) (p g : Addr) : Prop where
  rd : ClX.CRead K C mc
  fnd : PySem.W.findCls K (.ref C) mc m = some (.get (.builtin "staticmethod.__get__") (.ref p) .none (.ref C))
  rec_ : ∃ rest, PySem.W.recIn K p "staticmethod" = some (.ref g :: rest)
  kp : PySem.W.keepIn K (.ref g) = true
def tSM (C : Addr) (sp : Sp) (ta : TE) (t : TA) : TE := fun σ H Q => ta σ H fun x H1 => x = .ref C ∧ t σ H1 fun vs H2 => sp vs H2 Q E0
theorem pe_smeth {X : Cx} {k j : Nat} {C p g : Addr} {mc : Value} {fd : FuncData} {ps : List Str} {sp : Sp} {o e : Expr} {es : List Expr} {m : Str} {pos apos : Pos} {ta : TE} {t : TA} {pl : Sem Bool}
    (ho : PE X o ta) (S : SMet X.K C mc m p g) (F : FnOk X.prog X.w X.K X.mg X.base CX0 k g fd ps sp) (hb : Binds X.K fd ps []) (hr : Room j X.A) (hk : k ≤ j) (ha : PA X (e :: es) t)
    (he : starEach (e :: es) X.env = (false, eval e X.env) :: starEach es X.env := by rfl) (hpl : (backTo pos (starEach es X.env)).any (·.1) = false := by rfl)
    (ht : eval (.Call (.Attribute o m apos) (e :: es) [] pos) X.env = (do
      let ov ← eval o X.env; standAt apos.atName
      let (f, first) ← holding [ov] (getMethod ov m pl); callWith pos f first (backTo pos (starEach (e :: es) X.env)) (backToKw pos (keywordEach [] X.env))) := by rfl) :
    PE X (.Call (.Attribute o m apos) (e :: es) [] pos) (tSM C sp ta t) := by
  refine ⟨fun pins s σ H Q I h => PySem.W.methodCall_KW (pl := pl) (thn (ho.run pins s σ H _ I h) fun u s1 ⟨x, H1, I1, rx, ex, q⟩ => ?_) ht⟩
  subst ex
  obtain rfl : u = Value.ref C := rx
  obtain ⟨rest, hrc⟩ := S.rec_
  refine PySem.W.method_cls I1.kIn S.rd.ga (PySem.W.cls_bind I1.kIn S.rd.rd S.fnd ?_)
  refine wpAny_call (PySem.W.sm_get (s := { s1 with toks := s1.toks + 1 }) I1.kIn hrc (PySem.W.handed_on rfl ?_))
  have I2 : Inv X pins σ H1 { s1 with toks := s1.toks + 1 } := I1.tok _
  exact PySem.W.callWith_K (h₀ := X.base) I2.ok.mod.kin S.kp (thn (ha.run pos pins _ σ H1 _ I2 q) fun us s3 ⟨vs, H3, I3, rv, q3⟩ => ⟨I3.kIn, run_fn F (hr.mono hk) hb .nil pass0 I3 rv (by rw [List.append_nil]; exact q3)⟩) he hpl
theorem vals_some : ∀ (its : List Value), (∀ u ∈ its, ∃ y, RelV y u) → ∃ ys, Vals ys its
  | [], _ => ⟨[], .nil⟩
  | u :: r, h => by
    obtain ⟨y, hy⟩ := h u List.mem_cons_self
    obtain ⟨ys, hys⟩ := vals_some r fun v hv => h v (List.mem_cons_of_mem _ hv)
    exact ⟨y :: ys, .cons hy hys⟩
/-- list(text): a new list -/
theorem call_list_txt {X : Cx} (hc : X.A.handled = none) : CallR X (.type "list") (fun xs H Q => ∃ z : Str, xs = [.str z] ∧ z.length ≤ sizeLine ∧ ∀ l ys, H l = none → Q (.ref l) (upd H l (.lst ys))) := by
  intro pins s σ H xs us Q I r h
  obtain ⟨z, rfl, hz, q⟩ := h
  obtain ⟨u, rfl, rx⟩ := vals1 r
  obtain ⟨t, rfl⟩ := rx
  refine call_list_str hc z t (fun h' tk acc c' kp e it => ?_) hz
  obtain ⟨ys, hys⟩ := vals_some acc.toList fun u hu => by
    obtain ⟨j, hj, e1⟩ := List.getElem_of_mem hu
    obtain ⟨c, w, _, rfl⟩ := it.2 j u (by
      rw [← e1]
      simp)
    exact ⟨.str ⟨#[c]⟩, w, rfl⟩
  have hl := hys.length
  refine ⟨.ref s.heap.objs.size, _, I.laid (t' := tk) kp (Nat.le_refl _) (show ObjOk X.prog X.w _ h' _ (.lst ys) from ⟨?_, acc.toList, c', hys, by simpa using e⟩), rfl, q _ ys (I.hok.fresh (Nat.le_refl _))⟩
  have h1 : acc.size = z.cps.size := it.1
  have h2 : acc.toList.length = acc.size := Array.length_toList
  rw [hl, h2, h1]
  exact hz
end IC
namespace IC
open PySem L2 TL
open PyProof.Rows (envOfC)
/-! ### defs that ask repr: no repr may be under way around them -/
structure FnG (P : Program) (w : World) (K : PySem.W.Frag) (mg : Str → Option Value) (base : Heap) (k : Nat) (f : Addr) (fd : FuncData) (ps : List Str) (sp : Sp) : Prop where
  len : ∀ vs H Q E, sp vs H Q E → vs.length = ps.length
  run : ∀ (B : Around) (outer : List Env) (s : Shared) (H : Hp) (args : Args) (us : List Value) (vs : List V) (Q : VK) (E : XK), B.guards = some [] → Room k B → Env0 P w K mg base B outer s H → BindsTo s fd args (ps.zip us) → Vals vs us →
    sp vs H Q E → codeAny (model P w) B (.call (.ref f) args) (CR CX0 outer P w H s Q E) s
section
variable {P : Program} {w : World} {K : PySem.W.Frag} {mg : Str → Option Value} {base : Heap}
theorem FnOk.g {k : Nat} {f : Addr} {fd : FuncData} {ps : List Str} {sp : Sp} (F : FnOk P w K mg base CX0 k f fd ps sp) : FnG P w K mg base k f fd ps sp :=
  ⟨F.len, fun B outer s H args us vs Q E _ => F.run B outer s H args us vs Q E⟩
theorem FnG.mono {j k : Nat} {f : Addr} {fd : FuncData} {ps : List Str} {sp : Sp} (F : FnG P w K mg base j f fd ps sp) (h : j ≤ k) : FnG P w K mg base k f fd ps sp :=
  ⟨F.len, fun B outer s H args us vs Q E hg hr => F.run B outer s H args us vs Q E hg (hr.mono h)⟩
theorem Fun.okG {x qual : Str} {st : Stmt} {f : Addr} {fd : FuncData} {N ps : List Str} {k : Nat} {sp : Sp} (F : Fun K x qual st f fd) (S : FnScope N ps (defScope st)) (len : ∀ vs H Q E, sp vs H Q E → vs.length = ps.length)
    (hbody : ∀ (cdv : Value) (B : Around) (outer : List Env) (s : Shared) (H : Hp) (vs : List V) (Q : VK) (E : XK), (B.deeper (envOfC qual (defScope st) s.heap.objs.size f cdv)).guards = some [] →
      Room k (B.deeper (envOfC qual (defScope st) s.heap.objs.size f cdv)) → sp vs H Q E →
      ∃ t, PSs (cxOf CX0 P w K mg base N qual (defScope st) f cdv B outer s H E).nox (defBody st) t ∧ t { nx := fun _ H' => Q .non H', rt := Q } (start N vs) H) : FnG P w K mg base (k + 1) f fd ps sp := by
  obtain ⟨oc, od, kV, doc, pm, an, cdv, ct, osl, rfl, lk, hcd⟩ := F.ex
  refine ⟨len, fun B outer s H args us vs Q E hg hr e0 hb r hsp => ?_⟩
  have inK : K.In s.heap := e0.mod.kin.keeps fun b o e => And.left (e0.bs b o e)
  have noL : s.heap.NoLimit := e0.mod.nolimit.keeps fun b o e => And.left (e0.bs b o e)
  have kinds : ∀ y ∈ ps.zip us, (defScope st).names.lookup y.1 = some .local ∨ ((defScope st).names.lookup y.1 = some .cell ∧ ((cellsFrom (s.heap.objs.size + 1) (defScope st).names []).lookup y.1).isSome = true) := by
    rintro ⟨n, v⟩ hy
    cases S.par n (And.left (List.of_mem_zip hy)) with
    | inl q => exact Or.inl q
    | inr q => exact Or.inr (And.intro q (PySem.W.cellsFrom_some _ _ _ (Or.inl q)))
  refine codeAny_call_function (Room.depth hr) (inK _ _ lk) rfl S.co S.gen rfl (PySem.W.codeRec_of inK hcd) (hb _ _ _ _ (wpAny_newFunctionEnv_cells S.kind kinds fun env he s1 x => ?_))
  subst he
  obtain ⟨t, ht, hq⟩ := hbody cdv B outer s H vs Q E hg (Room.deeper hr _) hsp
  have I0 := inv_start (CX := CX0) (E := E) S (Room.hd hr) e0 (len _ _ _ _ hsp) r x
  refine And.intro (noL.keeps (And.left (And.intro x.toInCall.keep trivial))) (codeAny_func (wpAny_mono (ht.nox.run [] s1 (start N vs) H _ I0 hq) (fun fl s' hs => ?_) fun _ _ z => z))
  cases fl with
  | ret u =>
    obtain ⟨v, σ', H', J, rv, q⟩ := hs
    exact Exists.intro v (Exists.intro H' ⟨J.os, J.bare, J.base, J.hok, rv, q⟩)
  | next =>
    obtain ⟨σ', H', J, q⟩ := hs
    exact Exists.intro V.non (Exists.intro H' ⟨J.os, J.bare, J.base, J.hok, rfl, q⟩)
  | brk =>
    obtain ⟨_, _, _, q⟩ := hs
    exact q.elim
  | cont =>
    obtain ⟨_, _, _, q⟩ := hs
    exact q.elim
/-- a def of the text by its name, for a caller around which no repr is under way -/
structure DfG (P : Program) (w : World) (K : PySem.W.Frag) (mg : Str → Option Value) (base : Heap) (k : Nat) (x : Str) (ps : List Str) (sp : Sp) : Prop where
  ex : ∃ (f : Addr) (fd : FuncData), FnG P w K mg base k f fd ps sp ∧ mg x = some (.ref f) ∧ PySem.W.keepIn K (.ref f) = true ∧ Binds K fd ps []
theorem pe_dfG {X : Cx} {k j : Nat} {x : Str} {ps : List Str} {sp : Sp} {e : Expr} {es : List Expr} {t : TA} {p pos : Pos} (D : DfG X.prog X.w X.K X.mg X.base k x ps sp) (hgd : X.A.guards = some []) (hr : Room j X.A) (hk : k ≤ j) (hg : Gl X x)
    (ha : PA X (e :: es) t) (hdb : (x == ("__debug__" : Str)) = false := by decide) (he : starEach (e :: es) X.env = (false, eval e X.env) :: starEach es X.env := by rfl) (hpl : (backTo pos (starEach es X.env)).any (·.1) = false := by rfl) :
    PE X (.Call (.Name x p) (e :: es) [] pos) (tCall sp [] E0 t) := by
  obtain ⟨f, fd, F, hm, hkp, hb⟩ := D.ex
  refine ⟨fun pins s σ H Q I h => wpAny_Call_Name_kw (ld_glob I hg hm (PySem.W.callWith_K (h₀ := X.base) I.ok.mod.kin hkp (thn (ha.run pos pins s σ H _ I h) fun us s1 hh => ?_) he hpl) hdb)⟩
  obtain ⟨vs, H1, I1, r, q⟩ := hh
  refine And.intro I1.kIn ?_
  rw [List.append_nil] at q
  have hl : us.length = ps.length := by rw [← r.length]; exact F.len _ _ _ _ q
  refine wpAny_call (codeAny_mono (F.run X.A X.stack s1 H1 ⟨us, []⟩ us vs Q E0 hgd (hr.mono hk) I1.env0 (by have z := hb s1 us I1.kIn (by rw [List.append_nil]; exact hl); rw [List.append_nil] at z; exact z) r q) fun r s' hq => ?_)
  cases r with
  | error er => exact False.elim hq
  | ok fl =>
    cases fl with
    | ret u => exact I1.after hq
    | next => exact False.elim hq
    | brk => exact False.elim hq
    | cont => exact False.elim hq
/-- repr of data -/
theorem call_reprD {X : Cx} (hgd : X.A.guards = some []) (hu : X.A.units + 64 < cLine) : CallR X (.builtin "repr") (fun xs H Q => ∃ (a : Addr) (d : PyData), xs = [.ref a] ∧ Dp X.K H (.ref a) d ∧ d.showable = true ∧ d.hasDict = false ∧ d.depth ≤ 20 ∧ d.shown.length ≤ sizeLine ∧ Q (.str d.shown) H) := by
  intro pins s σ H xs us Q I r h
  obtain ⟨a, d, rfl, hd, h1, h2, h3, h4, q⟩ := h
  obtain ⟨u, rfl, ru⟩ := vals1 r
  obtain rfl : u = Value.ref a := ru
  obtain ⟨as, rd⟩ := hd.reads I _ _ _ rfl
  refine repr_of_reads' rd h1 (fun e => by rw [h2] at e; cases e) hgd (by omega) (fun _ _ e => e) (fun h' w' tk kp => ⟨.str d.shown, H, I.kept (t' := tk) kp, ⟨_, rfl⟩, q⟩) h4
end
end IC
namespace IC
open PySem L2 TL PyProof.Rows
/-- the law's own call, where its def is an FnG -/
theorem call_law {P : Program} {w : World} {K : PySem.W.Frag} {mg mb : Str → Option Value} {k : Nat} {fa a : Addr} {fd : FuncData} {s0 : Shared} {vs : List Value} {ns : List Int}
    (inK : K.In s0.heap) (gl : s0.heap.Ns mainGlobals mg) (bl : s0.heap.Ns builtinsNs mb) (bo : ∀ x : Str, x ≠ "__name__" → mb x = bootBuiltins x) (noL : s0.heap.NoLimit) (gn : s0.gens = #[])
    (at_ : s0.heap.get? a = some { cls := .type "list", data := .seq vs.toArray }) (are : IntsAre vs ns) (small : ns.length ≤ sizeLine) (hr : Room k callerA) (hg : callerA.guards = some [])
    (F : ∀ base : Heap, K.In base → base.Ns mainGlobals mg → FnG P w K mg base k fa fd ["script"] (spLaw K)) (bnd : ∀ (s : Shared) (u : Value), BindsTo s fd ⟨[u], []⟩ [("script", u)]) (few : ns.length ≤ 63) :
    codeAny (model P w) callerA (.call (.ref fa) ⟨[.ref a], []⟩) (fun r s' => r = .ok (.ret (.bool true)) ∧ OldK s0.heap s'.heap ∧ s'.os = s0.os ∧ AllBare s'.gens) s0 := by
  have rel := vals_ints are
  have main : ∀ G : Hp, Only G → SqL K G a (ns.map V.int) → HOk P w G s0.heap → (∀ b, G b ≠ none → b = a ∧ K.lookup a = none) →
      codeAny (model P w) callerA (.call (.ref fa) ⟨[.ref a], []⟩) (fun r s' => r = .ok (.ret (.bool true)) ∧ OldK s0.heap s'.heap ∧ s'.os = s0.os ∧ AllBare s'.gens) s0 := by
    intro G only sq hok one
    have down : ∀ {b : Addr} {o : Obj}, s0.heap.get? b = some o → G b = none → (hidT s0.heap G).get? b = some o := fun {b o} e n => hidT_get e n
    have free : ∀ {b : Addr} {o : Obj} {es : Array DictEntry} {ep : Nat}, s0.heap.get? b = some o → o.data = .dict es ep → G b = none := by
      intro b o es ep e d
      cases q : G b with
      | none => rfl
      | some u =>
        obtain ⟨rfl, _⟩ := one b (by rw [q]; simp)
        rw [at_] at e
        cases e
        cases d
    have names : ∀ {b : Addr} {m : Str → Option Value}, s0.heap.Ns b m → (hidT s0.heap G).Ns b m := by
      rintro b m ⟨o, es, ep, e, d, r⟩
      exact ⟨o, es, ep, down e (free e d), d, r⟩
    have inB : K.In (hidT s0.heap G) := by
      intro b o e
      refine down (inK b o e) ?_
      cases q : G b with
      | none => rfl
      | some u =>
        obtain ⟨rfl, n⟩ := one b (by rw [q]; simp)
        rw [n] at e
        cases e
    obtain ⟨mc, c1, c2⟩ := noL
    have env : Env0 P w K mg (hidT s0.heap G) callerA [] s0 G := ⟨rfl, ⟨inB, names gl, ⟨mb, names bl, bo⟩, ⟨mc, names c1, c2⟩⟩, fun b o e => of_hidT e, Nat.le_of_eq (hidT_size _ _), trivial, fun b hb => absurd (show b ∈ ([] : List Addr) from hb) (by simp), hok, .of_eq gn⟩
    have go := (F _ inB (names gl)).run callerA [] s0 G ⟨[.ref a], []⟩ [.ref a] [.ref a] (fun v _ => v = .bl true) (fun _ _ _ => False) hg hr env (bnd s0 (.ref a)) (.cons rfl .nil) ⟨a, ns, rfl, sq, few, fun _ => rfl⟩
    refine codeAny_mono go (fun r s' h => ?_)
    match r, h with
    | .error e, h => exact False.elim h
    | .ok .next, h => exact False.elim h
    | .ok .brk, h => exact False.elim h
    | .ok .cont, h => exact False.elim h
    | .ok (.ret u), ⟨v, G', o1, o2, un, hok', r', q⟩ =>
      have q : v = V.bl true := q
      subst q
      obtain rfl : u = Value.bool true := r'
      refine And.intro rfl (And.intro (OldK.of_keep fun b o e => ?_) (And.intro o1 o2))
      cases q : G b with
      | none => exact un.keep b o e q (fun z => absurd (show b ∈ ([] : List Addr) from z) (by simp)) (by simp)
      | some u =>
        rcases only b with z | ⟨ob, xs, z⟩
        · rw [q] at z
          cases z
        · have t1 := And.left (hok b _ z)
          have t2 := And.left (hok' b _ (un.frzs b ob _ z))
          rw [e] at t1
          cases t1
          exact t2
  cases hk : K.lookup a with
  | some o =>
    have e := inK a o hk
    rw [at_] at e
    cases e
    exact main (fun _ => none) (fun _ => Or.inl rfl) (Or.inr ⟨_, vs.toArray, _, hk, rfl, rfl, rfl, by rw [List.size_toArray, are.length]; exact small, by simpa using rel⟩) (fun b u z => nomatch (show (none : Option HO) = some u from z)) (fun b z => absurd rfl z)
  | none =>
    have only1 : ∀ b, (if b = a then some (HO.frz { cls := .type "list", data := .seq vs.toArray } (.lst (ns.map V.int))) else none) ≠ none → b = a := by
      intro b z
      by_cases hb : b = a
      · exact hb
      · rw [if_neg hb] at z
        exact absurd rfl z
    refine main (fun b => if b = a then some (.frz { cls := .type "list", data := .seq vs.toArray } (.lst (ns.map V.int))) else none) (fun b => ?_) (Or.inl (Or.inr ⟨_, if_pos rfl⟩)) (fun b u z => ?_) (fun b z => And.intro (only1 b z) hk)
    · by_cases hb : b = a
      · exact Or.inr ⟨_, _, if_pos hb⟩
      · exact Or.inl (if_neg hb)
    · have hb := only1 b (by rw [show (if b = a then some (HO.frz { cls := .type "list", data := .seq vs.toArray } (.lst (ns.map V.int))) else none) = some u from z]; simp)
      subst hb
      have z2 := (if_pos rfl).symm.trans z
      cases z2
      exact And.intro at_ (And.intro (by rw [List.length_map]; exact small) ⟨vs, _, rel, at_⟩)
theorem walkG {l : PySem.W.OpenLaw} {k : Nat} {q : Program} {loose : List Str} {XP : (Str → Option Value) → Heap → Prop} {YP : World → Heap → Prop} {d : DefRec} {K : Params → PySem.W.Frag} (hn : l.most = some 63) (hdf : d.params.defaults = []) (hr : Room k callerA)
    (hY : ∀ (w : World) (h : Heap), YP w h → (K w.params).In h)
    (F : ∀ (w : World) (mg : Str → Option Value) (fa : Addr) (h : Heap), (K w.params).In h → h.Ns mainGlobals mg → mg d.name = some (.ref fa) →
      ∃ fd : FuncData, (∀ (s : Shared) (u : Value), BindsTo s fd ⟨[u], []⟩ [("script", u)]) ∧ ∀ base : Heap, (K w.params).In base → base.Ns mainGlobals mg → FnG l.prog w (K w.params) mg base k fa fd ["script"] (spLaw (K w.params))) :
    PySem.W.WalkO q loose XP YP l.row.toRowW d [] (fun f vs => PySem.call f vs) := by
  refine Att.attach_call hn hdf fun w s₀ s₁ mg mb fa o pm cd doc a vs ns G Y ho hd hcd hmg hobj hints hlen hg => ?_
  obtain ⟨fd, hb, hF⟩ := F w mg fa _ (hY w _ Y) G.T.g hmg
  exact call_law (hY w _ Y) G.T.g G.T.b G.T.builtins G.T.nolimit hg hobj hints (Nat.le_trans hlen (by decide)) hr rfl hF hb hlen
end IC
namespace IC
open PySem L2 TL
/-! ### what is never come to -/
section
variable {X : Cx}
theorem ps_dead {st : Stmt} : PS X st (fun _ _ _ => False) := ⟨fun _ _ _ _ _ _ h => h.elim⟩
theorem pss_dead {ss : List Stmt} : PSs X ss (fun _ _ _ => False) := ⟨fun _ _ _ _ _ _ h => h.elim⟩
theorem pt_dead {e : Expr} : PT X e (fun _ _ _ => False) := ⟨fun _ _ _ _ _ _ h => h.elim⟩
theorem pe_dead {e : Expr} : PE X e (fun _ _ _ => False) := ⟨fun _ _ _ _ _ _ h => h.elim⟩
end
/-! ### methods by their class -/
structure MDf (P : Program) (w : World) (K : PySem.W.Frag) (mg : Str → Option Value) (base : Heap) (CX : CXT) (k : Nat) (C : Addr) (m : Str) (ps : List Str) (dvs : List V) (sp : Sp) : Prop where
  ex : ∃ (f : Addr) (fd : FuncData) (ds : List Value), FnOk P w K mg base CX k f fd ps sp ∧ Meth K C m f ∧ Binds K fd ps ds ∧ Vals dvs ds
/-- o.m(..), what is raised is wished for at the caller's slots -/
def tMethS (C : Addr) (m : Str) (sp : Sp) (dvs : List V) (E : L2.St → XK) (ta : TE) (t : TA) : TE := fun σ H Q => ta σ H fun x H1 => ∃ a dx fs, x = .ref a ∧ H1 a = some (.ins C dx fs) ∧ fs.lookup m = none ∧
  t σ H1 fun vs H2 => sp (x :: (vs ++ dvs)) H2 Q (E σ)
section
variable {X : Cx} {k j : Nat} {C : Addr} {m : Str} {ps : List Str} {dvs : List V} {sp : Sp} {o e : Expr} {es : List Expr} {pos apos : Pos} {ta : TE} {t : TA} {pl : Sem Bool} {W : WX}
theorem pe_md (D : MDf X.prog X.w X.K X.mg X.base CX0 k C m ps dvs sp) (c : Cls X.K C) (hr : Room j X.A) (hk : k ≤ j) (he : PE X o ta) (ha : PA X (e :: es) t)
    (hst : starEach (e :: es) X.env = (false, eval e X.env) :: starEach es X.env := by rfl) (hpl : (backTo pos (starEach es X.env)).any (·.1) = false := by rfl)
    (ht : eval (.Call (.Attribute o m apos) (e :: es) [] pos) X.env = (do
      let ov ← eval o X.env; standAt apos.atName
      let (f, first) ← holding [ov] (getMethod ov m pl); callWith pos f first (backTo pos (starEach (e :: es) X.env)) (backToKw pos (keywordEach [] X.env))) := by rfl) :
    PE X (.Call (.Attribute o m apos) (e :: es) [] pos) (tMeth C m sp dvs E0 ta t) := by
  obtain ⟨f, fd, ds, F, hm, hb, hd⟩ := D.ex
  exact pe_meth he c hm F (hr.mono hk) hb hd pass0 ha hst hpl ht
theorem pe_md0 (D : MDf X.prog X.w X.K X.mg X.base CX0 k C m ps dvs sp) (c : Cls X.K C) (hr : Room j X.A) (hk : k ≤ j) (he : PE X o ta)
    (ht : eval (.Call (.Attribute o m apos) [] [] pos) X.env = (do
      let ov ← eval o X.env; standAt apos.atName
      let (f, first) ← holding [ov] (getMethod ov m pl); callWith pos f first (backTo pos (starEach [] X.env)) (backToKw pos (keywordEach [] X.env))) := by rfl) :
    PE X (.Call (.Attribute o m apos) [] [] pos) (tMeth C m sp dvs E0 ta tNil) := by
  obtain ⟨f, fd, ds, F, hm, hb, hd⟩ := D.ex
  exact pe_meth0 he c hm F (hr.mono hk) hb hd pass0 ht
theorem pe_mdX (D : MDf X.prog X.w X.K X.mg X.base (L2.CX X.prog X.w) k C m ps dvs sp) (c : Cls X.K C) (tk : Takes X W) (hr : Room j X.A) (hk : k ≤ j) (he : PE X o ta) (ha : PA X (e :: es) t)
    (hst : starEach (e :: es) X.env = (false, eval e X.env) :: starEach es X.env := by rfl) (hpl : (backTo pos (starEach es X.env)).any (·.1) = false := by rfl)
    (ht : eval (.Call (.Attribute o m apos) (e :: es) [] pos) X.env = (do
      let ov ← eval o X.env; standAt apos.atName
      let (f, first) ← holding [ov] (getMethod ov m pl); callWith pos f first (backTo pos (starEach (e :: es) X.env)) (backToKw pos (keywordEach [] X.env))) := by rfl) :
    PE X (.Call (.Attribute o m apos) (e :: es) [] pos) (tMethS C m sp dvs (WE W) ta t) := by
  obtain ⟨f, fd, ds, F, hm, hb, hd⟩ := D.ex
  refine ⟨fun pins s σ H Q I h => PySem.W.methodCall_KW (pl := pl) (thn (he.run pins s σ H _ I h) fun u s1 ⟨x, H1, I1, rx, a, dx, fs, ex, ea, l, q⟩ => ?_) ht⟩
  subst ex
  obtain rfl : u = Value.ref a := rx
  refine getmeth_ok I1 ea c hm l (PySem.W.callWith_K (first := [.ref a]) (h₀ := X.base) I1.ok.mod.kin hm.kp (thn (ha.run pos pins s1 σ H1 _ I1 q) fun us s2 ⟨vs, H2, I2, r, q2⟩ => ⟨I2.kIn, ?_⟩) hst hpl)
  exact run_fnSD (us := .ref a :: us) (vs := .ref a :: vs) F (hr.mono hk) hb hd (passAt tk σ) I2 (.cons rfl r) q2
theorem pe_mdX0 (D : MDf X.prog X.w X.K X.mg X.base (L2.CX X.prog X.w) k C m ps dvs sp) (c : Cls X.K C) (tk : Takes X W) (hr : Room j X.A) (hk : k ≤ j) (he : PE X o ta)
    (ht : eval (.Call (.Attribute o m apos) [] [] pos) X.env = (do
      let ov ← eval o X.env; standAt apos.atName
      let (f, first) ← holding [ov] (getMethod ov m pl); callWith pos f first (backTo pos (starEach [] X.env)) (backToKw pos (keywordEach [] X.env))) := by rfl) :
    PE X (.Call (.Attribute o m apos) [] [] pos) (tMethS C m sp dvs (WE W) ta tNil) := by
  obtain ⟨f, fd, ds, F, hm, hb, hd⟩ := D.ex
  refine ⟨fun pins s σ H Q I h => PySem.W.methodCall_KW (pl := pl) (thn (he.run pins s σ H _ I h) fun u s1 ⟨x, H1, I1, rx, a, dx, fs, ex, ea, l, q⟩ => ?_) ht⟩
  subst ex
  obtain rfl : u = Value.ref a := rx
  refine getmeth_ok I1 ea c hm l ?_
  exact PySem.W.callWith_K0 (first := [.ref a]) I1.kIn hm.kp (run_fnSD (us := [.ref a]) (vs := [.ref a]) F (hr.mono hk) hb hd (passAt tk σ) I1 (.cons rfl .nil) q)
end
/-- a property by its class -/
structure PDf (P : Program) (w : World) (K : PySem.W.Frag) (mg : Str → Option Value) (base : Heap) (k : Nat) (C : Addr) (f : Str) (sp : Sp) : Prop where
  ex : ∃ (p g : Addr) (fd : FuncData), PropOf K C f p g ∧ FnOk P w K mg base CX0 k g fd ["self"] sp ∧ Binds K fd ["self"] []
theorem pe_pd {X : Cx} {k j : Nat} {C : Addr} {f : Str} {sp : Sp} {e : Expr} {ta : TE} {pos : Pos} (D : PDf X.prog X.w X.K X.mg X.base k C f sp) (c : Cls X.K C) (hr : Room j X.A) (hk : k + 1 ≤ j) (he : PE X e ta)
    (hab : attributeBase e f X.env (eval e X.env) = eval e X.env := by rfl) : PE X (.Attribute e f pos) (tProp C sp [] E0 ta) := by
  obtain ⟨p, g, fd, hp, F, hb⟩ := D.ex
  exact pe_prop he c hp F (hr.mono hk) hb .nil pass0 hab
/-! ### own errors with fields -/
structure ErrC (K : PySem.W.Frag) (mg : Str → Option Value) (x : Str) (C fI : Addr) : Prop where
  gC : mg x = some (.ref C)
  ox : OexC K C
  xf : XfC K C
  iC : PySem.W.findIn K (.ref C) "__init__" = some (some (.ref fI))
  tI : PySem.W.typeIn K (.ref fI) = some (.type "function")
/-- __init__(self, v): the fields fs v are laid -/
def spErr (C : Addr) (fs : V → List (Str × V)) : Sp := fun vs H Q _ => ∃ (a : Addr) (v : V), vs = [.ref a, v] ∧ H a = some (exo a C none) ∧
  ∀ (d : Addr) (H' : Hp), H d = none → d ≠ a → H' a = some (exo a C (some d)) → H' d = some (exd d (fs v)) → (∀ b, b ≠ a → b ≠ d → H' b = H b) → Q .non H'
structure EDf (P : Program) (w : World) (K : PySem.W.Frag) (mg : Str → Option Value) (base : Heap) (k : Nat) (x : Str) (C : Addr) (p : Str) (fs : V → List (Str × V)) : Prop where
  ex : ∃ (fI : Addr) (fd : FuncData), ErrC K mg x C fI ∧ FnOk P w K mg base CX0 k fI fd ["self", p] (spErr C fs) ∧ Binds K fd ["self", p] []
def tMkE (C : Addr) (fs : V → List (Str × V)) (ta : TA) : L2.St → Hp → XK → Prop := tMkO C (spErr C fs) [] ta
theorem pmk_ed {X : Cx} {k j : Nat} {x q : Str} {C : Addr} {fs : V → List (Str × V)} {e : Expr} {ta : TA} {p pos : Pos} (D : EDf X.prog X.w X.K X.mg X.base k x C q fs) (kC : PySem.W.keepIn X.K (.ref C) = true) (hr : Room j X.A) (hk : k + 1 ≤ j) (hg : Gl X x) (ha : PA X [e] ta)
    (hdb : (x == ("__debug__" : Str)) = false := by decide) (he : starEach [e] X.env = (false, eval e X.env) :: starEach [] X.env := by rfl) (hpl : (backTo pos (starEach [] X.env)).any (·.1) = false := by rfl) :
    PMk X (.Call (.Name x p) [e] [] pos) (tMkE C fs ta) := by
  obtain ⟨fI, fd, T, F, hb⟩ := D.ex
  exact pmk_oex T.ox T.iC T.tI F (hr.mono hk) hb .nil pass0 hg T.gC ha hdb he hpl
theorem upd_del {H1 H2 : Hp} {a d : Addr} {o : HO} (ha : H1 a = none) (e : ∀ b, b ≠ a → b ≠ d → H2 b = H1 b) (hd : d ≠ a) : upd (del H2 a) d o = upd H1 d o := by
  funext b
  by_cases h1 : b = d
  · rw [h1, upd_same, upd_same]
  · rw [upd_ne h1, upd_ne h1]
    by_cases h2 : b = a
    · rw [h2, del_same, ha]
    · rw [del_ne h2]
      exact e b h2 h1
/-- what the making of such an error asks -/
theorem mke {C : Addr} {fs : V → List (Str × V)} {vs : List V} {H1 : Hp} {Q : XK} (v : V) (hv : vs = [v]) (h : ∀ d, H1 d = none → Q (.ref C) (some d) (upd H1 d (.xd (fs v)))) :
    vs.length ≤ 1000 ∧ ∀ a, H1 a = none → spErr C fs (.ref a :: (vs ++ [])) (upd H1 a (exo a C none))
      (fun v H2 => v = .non ∧ ∃ (d : Addr) (fs : List (Str × V)), H2 a = some (exo a C (some d)) ∧ H2 d = some (exd d fs) ∧ H1 d = none ∧ Q (.ref C) (some d) (upd (del H2 a) d (.xd fs))) (fun _ _ _ => False) := by
  subst hv
  refine ⟨by show 1 ≤ 1000; omega, fun a ha => ⟨a, v, rfl, upd_same, fun d H' hd hda e1 e2 e3 => ⟨rfl, d, fs v, e1, e2, ?_, ?_⟩⟩⟩
  · rw [upd_ne hda] at hd
    exact hd
  · rw [upd_ne hda] at hd
    rw [upd_del ha (fun b h1 h2 => by rw [e3 b h1 h2, upd_ne h1]) hda]
    exact h d hd
end IC
namespace IC
open PySem L2 TL PyProof.Rows
/-! ### own errors made without arguments -/
section
variable {X : Cx} {x : Str} {C fI : Addr} {k : Nat} {fd : FuncData} {sp : Sp} {p pos : Pos}
/-- C(), C's own __init__(self) keeping sp -/
def tMk0 (C : Addr) (sp : Sp) : L2.St → Hp → XK → Prop := fun _ H Q => ∀ a, H a = none →
  sp [.ref a] (upd H a (exo a C none)) (fun v H2 => v = .non ∧ ∃ (d : Addr) (fs : List (Str × V)), H2 a = some (exo a C (some d)) ∧ H2 d = some (exd d fs) ∧ H d = none ∧ Q (.ref C) (some d) (upd (del H2 a) d (.xd fs))) E0
theorem pmk_oe0 (T : OexC X.K C) (iC : PySem.W.findIn X.K (.ref C) "__init__" = some (some (.ref fI))) (tI : PySem.W.typeIn X.K (.ref fI) = some (.type "function")) (Fn : FnOk X.prog X.w X.K X.mg X.base CX0 k fI fd ["self"] sp) (hr : Room (k + 1) X.A)
    (hb : Binds X.K fd ["self"] []) (hg : Gl X x) (hm : X.mg x = some (.ref C)) (hdb : (x == ("__debug__" : Str)) = false := by decide) : PMk X (.Call (.Name x p) [] [] pos) (tMk0 C sp) := by
  intro pins s σ H Q I h
  obtain ⟨nm, q, N, bs, bm, sn, sub, ab, col, dd, k0, k1, k2, k3, k5, hC, hbm⟩ := T.cls
  refine wpAny_Call_Name_kw (ld_glob I hg hm (PySem.W.callWith_K0 I.kIn T.kC ?_) hdb)
  obtain ⟨hp, g, dr, tk, os⟩ := s
  obtain ⟨e, he⟩ : ∃ e, e = hp.objs.size + 1 := ⟨_, rfl⟩
  have le : hp.objs.size ≤ e := by rw [he]; exact Nat.le_succ _
  have ne : H e = none := I.hok.fresh le
  have up : ∀ b o, hp.get? b = some o → ((hp.push (PySem.W.kdv_tup [])).push (PySem.HandSPX.excO C hp.objs.size)).get? b = some o := fun b o z => Heap.get?_push_of_some _ (Heap.get?_push_of_some _ z)
  have at_ : ((hp.push (PySem.W.kdv_tup [])).push (PySem.HandSPX.excO C hp.objs.size)).get? e = some (PySem.HandSPX.excO C hp.objs.size) := by
    rw [he]
    heap_get
  have J : Inv X pins σ (upd H e (exo e C none)) ⟨(hp.push (PySem.W.kdv_tup [])).push (PySem.HandSPX.excO C hp.objs.size), g, dr, tk, os⟩ := I.laid (t' := tk) up le (exo_ok at_)
  have go := Fn.run _ X.stack _ _ ⟨[Value.ref e], []⟩ [Value.ref e] [V.ref e] _ E0 (hr.make C [] []) (J.env0.make C [] []) (by have z := hb _ [Value.ref e] J.kIn rfl; rw [List.append_nil] at z; exact z) (.cons (show RelV (V.ref e) (Value.ref e) from rfl) .nil) (h e ne)
  subst he
  refine wpAny_call (PySem.HandSPX.call_own PySem.F.excBase_ValueError (fun Y => PySem.HandSPX.refsVE_contains Y bm hbm) (I.kIn _ _ hC) (PySem.W.looks_findIn I.kIn iC) (fun self => PySem.W.bind_fn I.kIn self tI) (Nat.zero_le _) (codeAny_mono go fun r s' z => ?_))
  match r, z with
  | .error er, z => exact False.elim z
  | .ok .next, z => exact False.elim z
  | .ok .brk, z => exact False.elim z
  | .ok .cont, z => exact False.elim z
  | .ok (.ret u), z =>
    obtain ⟨v, H2, o2, b2, u2, ok2, rv, ev, d, fs, ea, ed, hd, q2⟩ := z
    subst ev
    obtain ⟨h2, g2, d2, t2, os2⟩ := s'
    exact And.intro rv (mk_end (raises_own T.exC T.tyC) I le up u2 ok2 o2 b2 ea ed hd q2)
end
/-- __init__(self) of such an error: the fields fs are laid -/
def spErr0 (C : Addr) (fs : List (Str × V)) : Sp := fun vs H Q _ => ∃ a : Addr, vs = [.ref a] ∧ H a = some (exo a C none) ∧
  ∀ (d : Addr) (H' : Hp), H d = none → d ≠ a → H' a = some (exo a C (some d)) → H' d = some (exd d fs) → (∀ b, b ≠ a → b ≠ d → H' b = H b) → Q .non H'
theorem mke0 {C : Addr} {fs : List (Str × V)} {H : Hp} {Q : XK} {σ : L2.St} (h : ∀ d, H d = none → Q (.ref C) (some d) (upd H d (.xd fs))) : tMk0 C (spErr0 C fs) σ H Q := fun a ha =>
  ⟨a, rfl, upd_same, fun d H' hd hda e1 e2 e3 => by
    rw [upd_ne hda] at hd
    refine ⟨rfl, d, fs, e1, e2, hd, ?_⟩
    rw [upd_del ha (fun b h1 h2 => by rw [e3 b h1 h2, upd_ne h1]) hda]
    exact h d hd⟩
end IC
namespace IC
open PySem L2 TL PyProof.Rows
/-- C(), a class without an own __init__ -/
theorem pmk_plain0 {X : Cx} {C : Addr} {bmB : List Value} {B newId initId : String} {x : Str} {p pos : Pos} (Fb : ExcBaseFacts B newId initId bmB) (q : PySem.W.excIn X.K C bmB newId = true) (gC : X.mg x = some (.ref C)) (kC : PySem.W.keepIn X.K (.ref C) = true)
    (r : Raises X (.ref C)) (hg : Gl X x) (hdb : (x == ("__debug__" : Str)) = false := by decide) : PMk X (.Call (.Name x p) [] [] pos) (fun _ H Q => Q (.ref C) none H) := by
  intro pins s σ H Q I h
  refine wpAny_Call_Name_kw (ld_glob I hg gC (PySem.W.callWith_K0 I.kIn kC ?_) hdb)
  obtain ⟨bm, N, nm, qn, bs, hdct, sn, sub, ab, col, dd, k0, k1, k2, k3, k5, mN, hC, hN, hni, T⟩ := exc_obj I.kIn q
  exact wpAny_call_exc_subT Fb T hC hN hni (fun h' e hm => mk_of I hm r h (I.hok.gone hm.new)) (Nat.zero_le _)
end IC
namespace IC
open PySem L2 TL
/-- an own error without arguments, by its name -/
structure EDf0 (P : Program) (w : World) (K : PySem.W.Frag) (mg : Str → Option Value) (base : Heap) (k : Nat) (x : Str) (C : Addr) (fs : List (Str × V)) : Prop where
  ex : ∃ (fI : Addr) (fd : FuncData), ErrC K mg x C fI ∧ FnOk P w K mg base CX0 k fI fd ["self"] (spErr0 C fs) ∧ Binds K fd ["self"] []
theorem pmk_ed0 {X : Cx} {k j : Nat} {x : Str} {C : Addr} {fs : List (Str × V)} {p pos : Pos} (D : EDf0 X.prog X.w X.K X.mg X.base k x C fs) (hr : Room j X.A) (hk : k + 1 ≤ j) (hg : Gl X x) (hdb : (x == ("__debug__" : Str)) = false := by decide) :
    PMk X (.Call (.Name x p) [] [] pos) (tMk0 C (spErr0 C fs)) := by
  obtain ⟨fI, fd, T, F, hb⟩ := D.ex
  exact pmk_oe0 T.ox T.iC T.tI F (hr.mono hk) hb hg T.gC hdb
end IC
namespace PySem
namespace ICK
open PySem.W PySem.Calls PyProof.Rows PySem.HandSPX
section
variable {pg : Program} {wd : World} {Ar : Around} {Ex : Value → Shared → Prop} {Rs : Result → Shared → Prop} {hh : Heap} {gg : Array GenState} {dw : Drawn} {tk : Nat} {oo : OsState}
variable {nm q : Str} {C N : Addr} {bs bm bmB : List Value} {hdct : Bool} {sn : List Str} {sub : List Value} {ab : Bool} {col : Option Bool} {dd : Option Addr} {k0 k1 k2 k3 k5 : Option Value} {B newId initId : String}
theorem checkK (Fb : ExcBaseFacts B newId initId bmB) (ht : ∀ X : String, bm.contains (.type X) = bmB.contains (.type X)) {kw : List (Str × Value)} {Qf : Unit → Shared → Prop} {M : Model}
    (hc : hh.get? C = some (excClassObj nm q C N bs bm hdct sn sub ab col dd k0 k1 k2 k3 k5 newId)) (hq : Qf () ⟨hh, gg, dw, tk, oo⟩) : wpAny M Ar (checkBuiltinCall newId ⟨[.ref C], kw⟩) Qf Ex ⟨hh, gg, dw, tk, oo⟩ := by
  have c1 : (Value.ref C :: bm).contains (.type B) = true := by rw [List.contains_cons, ht, Fb.hasB, Bool.or_true]
  have ns := Fb.noStar
  simp only [checkBuiltinCall, Fb.newKind, Fb.newSplit, Fb.newRow]
  repeat (first | refine wpAny_loadPart_at hc ?_ | (refine wpAny_isSubtype_exc hc ?_; rw [c1]) | refine wpAny_staticBase_exc hc ?_ | refine wpAny_madeBy_exc hc ?_ | simp only [bne_self_eq_false, Bool.false_eq_true, if_false] | wp_step)
  exact hq
/-- an exception laid by keywords: they are not looked at -/
theorem newK (Fb : ExcBaseFacts B newId initId bmB) (ht : ∀ X : String, bm.contains (.type X) = bmB.contains (.type X)) {kw : List (Str × Value)}
    (hc : hh.get? C = some (excClassObj nm q C N bs bm hdct sn sub ab col dd k0 k1 k2 k3 k5 newId))
    (hq : Rs (.ok (.ret (.ref (hh.objs.size + 1)))) ⟨(hh.push { cls := .type "tuple", data := .seq #[] }).push { cls := .ref C, data := .fields #[.ref hh.objs.size, .none, .none, .none, .bool false, .none] }, gg, dw, tk, oo⟩) :
    codeAny (model pg wd) Ar (.builtin newId ⟨[.ref C], kw⟩) Rs ⟨hh, gg, dw, tk, oo⟩ := by
  have e0 := Fb.ends
  have c1 : (Value.ref C :: bm).contains (.type B) = true := by rw [List.contains_cons, ht, Fb.hasB, Bool.or_true]
  have c2 : (Value.ref C :: bm).contains (.type "AttributeError") = false := by rw [List.contains_cons, ht, Fb.noAttr]; rfl
  have c3 : (Value.ref C :: bm).contains (.type "NameError") = false := by rw [List.contains_cons, ht, Fb.noName]; rfl
  refine codeAny_builtinAt Fb.entry ?_
  unfold Builtin.«BaseException.__new__»
  refine wpAt_bind ?_
  show wpAt _ _ _ (stack >>= _) _ _ _
  refine wpAt_bind (wpAt_stack fun p below => wpAt_of_wpAny ?_)
  wp_walk
  refine wpAt_of_wpAny ?_
  rw [Fb.owner]
  repeat (first | with_reducible refine wpAny_madeHere_exc Fb.canon hc ?_ | with_reducible refine wpAny_loadPart_at hc ?_ | (with_reducible refine wpAny_isSubtype_exc hc ?_; first | rw [c1] | rw [c2] | rw [c3]) | wp_step)
  show Rs _ _
  rw [Heap.size_push]
  exact hq
theorem typeCallK (Fb : ExcBaseFacts B newId initId bmB) (ht : ∀ X : String, bm.contains (.type X) = bmB.contains (.type X)) {kw : List (Str × Value)} {fI : Addr} {Qf : Fin → Shared → Prop}
    (hc : hh.get? C = some (excClassObj nm q C N bs bm hdct sn sub ab col dd k0 k1 k2 k3 k5 newId))
    (hi : W.Looks (model pg wd) hh (typeLookup (.ref C) "__init__") (some (.ref fI))) (hb : ∀ self, W.Looks (model pg wd) hh (bindSpecial (.ref fI) self) (.ref fI, [self]))
    (hq : codeAny (model pg wd) Ar (.call (.ref fI) ⟨[.ref (hh.objs.size + 1)], kw⟩)
      (fun r s' => match r with | .ok (.ret v) => v = .none ∧ Qf (.done (.ret (.ref (hh.objs.size + 1)))) s' | .ok _ => False | .error e => Ex e s')
      ⟨(hh.push (W.kdv_tup [])).push (excO C hh.objs.size), gg, dw, tk, oo⟩) :
    wpAny (model pg wd) Ar (Builtin.«type.__call__» ⟨[.ref C], kw⟩) Qf Ex ⟨hh, gg, dw, tk, oo⟩ := by
  repeat (first | with_reducible refine wpAny_loadPart_at hc ?_ | with_reducible refine wpAny_madeBy_exc hc ?_ | wp_step)
  refine codeAny_call_builtin_code (Code.quiet_builtin _ Fb.quiet) (checkK Fb ht hc ?_)
  refine newK Fb ht hc ?_
  show wpAny _ _ _ _ _ _
  have up : ∀ b o, hh.get? b = some o → ((hh.push (W.kdv_tup [])).push (excO C hh.objs.size)).get? b = some o := fun b o e => Heap.get?_push_of_some _ (Heap.get?_push_of_some _ e)
  have hc1 := up _ _ hc
  have he : ((hh.push (W.kdv_tup [])).push (excO C hh.objs.size)).get? (hh.objs.size + 1) = some (excO C hh.objs.size) := by heap_get
  have cc : (Value.ref C :: bm).contains (.ref C) = true := by simp
  have i1 := hi.keeps up
  have b1 := (hb (.ref (hh.objs.size + 1))).keeps up
  unfold isInstance
  repeat (first | with_reducible refine wpAny_loadPart_at he ?_ | (with_reducible refine wpAny_isSubtype_exc hc1 ?_; rw [cc]) | wp_step)
  show wpAny _ _ (typeLookup (.ref C) _) _ _ _
  refine i1.at ?_
  refine wpAny_holding (wpAny_bind (b1.at ?_))
  refine wpAny_bind (wpAny_call (codeAny_mono hq fun r s' z => ?_))
  rcases r with e | (v | _ | _ | _) <;> first | exact z | exact z.elim | skip
  obtain ⟨rfl, z⟩ := z
  first
    | exact wpAny_pure (wpAny_pure z)
    | (wp_walk; exact z)
theorem callK (Fb : ExcBaseFacts B newId initId bmB) (ht : ∀ X : String, bm.contains (.type X) = bmB.contains (.type X)) {kw : List (Str × Value)} {fI : Addr}
    (hc : hh.get? C = some (excClassObj nm q C N bs bm hdct sn sub ab col dd k0 k1 k2 k3 k5 newId))
    (hi : W.Looks (model pg wd) hh (typeLookup (.ref C) "__init__") (some (.ref fI))) (hb : ∀ self, W.Looks (model pg wd) hh (bindSpecial (.ref fI) self) (.ref fI, [self]))
    (hq : codeAny (model pg wd) (Ar.under (.builtin "type.__call__" ⟨[.ref C], kw⟩)) (.call (.ref fI) ⟨[.ref (hh.objs.size + 1)], kw⟩) (W.InitBack (hh.objs.size + 1) Rs)
      ⟨(hh.push (W.kdv_tup [])).push (excO C hh.objs.size), gg, dw, tk, oo⟩) :
    codeAny (model pg wd) Ar (.call (.ref C) ⟨[], kw⟩) Rs ⟨hh, gg, dw, tk, oo⟩ := by
  have f1 := tc_lookup
  have f2 := tc_bind (.ref C)
  have hTy : (⟨hh, gg, dw, tk, oo⟩ : Shared).TypeIs (.ref C) "type" := ⟨_, hc, rfl⟩
  refine codeAny_of_tree ?_
  show wpAny _ _ (callAny (.ref C) _) _ _ _
  repeat (any_goals (first | assumption | with_reducible refine wpAny_loadPart_at hc ?_ | wp_step))
  refine ⟨rfl, ?_⟩
  refine codeAny_call_builtin_at (Code.quiet_builtin _ (by decide +kernel)) entry_typeCall (wpAny_check_type_call_sub hc (typeCallK Fb ht hc hi hb ?_))
  refine codeAny_mono hq fun r s' z => ?_
  rcases r with e | (v | _ | _ | _) <;> exact z
end
end ICK
end PySem
namespace IC
open PySem L2 TL PyProof.Rows PySem.ICK
/-! ### own errors as values -/
structure EcF (K : PySem.W.Frag) (C : Addr) : Prop where
  ox : OexC K C
  xf : XfC K C
  cl : (PySem.W.clsIn K C).isSome = true
  ca : PySem.W.findIn K (.ref C) "__class__" = some (some (.builtin "object.__class__"))
  mo : PySem.W.mroIn K C (.type "object") = some true
structure EgF (K : PySem.W.Frag) : Prop where
  hn : PySem.W.specialIn K (.builtin "object.__class__") "__get__" = some (some (.builtin "getset_descriptor.__get__"))
  tk : PySem.W.takesIn K (.builtin "object.__class__") = some true
/-- the error at a, its class, its fields -/
def XV (H : Hp) (a C : Addr) (fs : List (Str × V)) : Prop := (fs = [] ∧ H a = some (exo a C none)) ∨ ∃ d, H a = some (exo a C (some d)) ∧ H d = some (exd d fs)
theorem XV.same {H H' : Hp} {a C : Addr} {fs : List (Str × V)} (h : XV H a C fs) (s : Same H H') : XV H' a C fs := h.imp (fun ⟨e, z⟩ => ⟨e, s _ _ z⟩) fun ⟨d, z1, z2⟩ => ⟨d, s _ _ z1, s _ _ z2⟩
section
variable {X : Cx} {x : Str} {C fI : Addr} {k : Nat} {fd : FuncData} {ps ks : List Str} {sp : Sp} {pins : List (Addr × Obj)} {σ : L2.St} {H : Hp} {s : Shared} {Q : VK} {us ws : List Value} {vs zs : List V} {g : List Value → List Value → List Value} {gV : List V → List V → List V}
theorem run_ev (T : OexC X.K C) (iC : PySem.W.findIn X.K (.ref C) "__init__" = some (some (.ref fI))) (tI : PySem.W.typeIn X.K (.ref fI) = some (.type "function")) (Fn : FnOk X.prog X.w X.K X.mg X.base CX0 k fI fd ps sp) (hr : Room (k + 1) X.A) (hb : Binds X.K fd ps [])
    (I : Inv X pins σ H s) (r : Vals vs us) (hl : vs.length ≤ 1000) (h : ∀ a, H a = none → sp (.ref a :: vs) (upd H a (exo a C none)) (fun v H2 => v = .non ∧ Q (.ref a) H2) E0) :
    wpAny (model X.prog X.w) X.A (call (.ref C) us) (EP X pins σ Q) X.xe s := by
  obtain ⟨nm, q, N, bs, bm, sn, sub, ab, col, dd, k0, k1, k2, k3, k5, hC, hbm⟩ := T.cls
  obtain ⟨hp, g, dr, tk, os⟩ := s
  obtain ⟨e, he⟩ : ∃ e, e = hp.objs.size + 1 := ⟨_, rfl⟩
  have le : hp.objs.size ≤ e := by rw [he]; exact Nat.le_succ _
  have ne : H e = none := I.hok.fresh le
  have up : ∀ b o, hp.get? b = some o → ((hp.push (PySem.W.kdv_tup us)).push (PySem.HandSPX.excO C hp.objs.size)).get? b = some o := fun b o z => Heap.get?_push_of_some _ (Heap.get?_push_of_some _ z)
  have at_ : ((hp.push (PySem.W.kdv_tup us)).push (PySem.HandSPX.excO C hp.objs.size)).get? e = some (PySem.HandSPX.excO C hp.objs.size) := by
    rw [he]
    heap_get
  have J : Inv X pins σ (upd H e (exo e C none)) ⟨(hp.push (PySem.W.kdv_tup us)).push (PySem.HandSPX.excO C hp.objs.size), g, dr, tk, os⟩ := I.laid (t' := tk) up le (exo_ok at_)
  have hq := h e ne
  have r2 : Vals (V.ref e :: vs) (Value.ref e :: us) := .cons rfl r
  have l2 : (Value.ref e :: us).length = ps.length := by
    rw [← r2.length]
    exact Fn.len _ _ _ _ hq
  have hus : us.length ≤ sizeLine := by
    rw [← Paired.length r, sizeLine_eq]
    omega
  have go := Fn.run _ X.stack _ _ ⟨Value.ref e :: us, []⟩ (Value.ref e :: us) (V.ref e :: vs) _ E0 (hr.make C us []) (J.env0.make C us []) (by have z := hb _ (Value.ref e :: us) J.kIn (by rw [List.append_nil]; exact l2); rw [List.append_nil] at z; exact z) r2 hq
  subst he
  refine wpAny_call (PySem.HandSPX.call_own PySem.F.excBase_ValueError (fun Y => PySem.HandSPX.refsVE_contains Y bm hbm) (I.kIn _ _ hC) (PySem.W.looks_findIn I.kIn iC) (fun self => PySem.W.bind_fn I.kIn self tI) hus (codeAny_mono go fun r s' z => ?_))
  match r, z with
  | .error er, z => exact False.elim z
  | .ok .next, z => exact False.elim z
  | .ok .brk, z => exact False.elim z
  | .ok .cont, z => exact False.elim z
  | .ok (.ret u), z =>
    obtain ⟨v, H2, I3, rv, ev, q3⟩ := J.after z
    subst ev
    exact And.intro rv ⟨V.ref (hp.objs.size + 1), H2, I3, rfl, q3⟩
theorem run_evK (T : OexC X.K C) (iC : PySem.W.findIn X.K (.ref C) "__init__" = some (some (.ref fI))) (tI : PySem.W.typeIn X.K (.ref fI) = some (.type "function")) (Fn : FnOk X.prog X.w X.K X.mg X.base CX0 k fI fd ps sp) (hr : Room (k + 1) X.A) (hb : KBn X.K fd ps 1 ks g gV)
    (I : Inv X pins σ H s) (rz : Vals zs ws) (l2 : zs.length = ks.length) (h : ∀ a, H a = none → sp (gV [.ref a] zs) (upd H a (exo a C none)) (fun v H2 => v = .non ∧ Q (.ref a) H2) E0) :
    wpAny (model X.prog X.w) X.A (call (.ref C) [] (ks.zip ws)) (EP X pins σ Q) X.xe s := by
  obtain ⟨nm, q, N, bs, bm, sn, sub, ab, col, dd, k0, k1, k2, k3, k5, hC, hbm⟩ := T.cls
  obtain ⟨hp, g0, dr, tk, os⟩ := s
  obtain ⟨e, he⟩ : ∃ e, e = hp.objs.size + 1 := ⟨_, rfl⟩
  have le : hp.objs.size ≤ e := by rw [he]; exact Nat.le_succ _
  have ne : H e = none := I.hok.fresh le
  have up : ∀ b o, hp.get? b = some o → ((hp.push (PySem.W.kdv_tup [])).push (PySem.HandSPX.excO C hp.objs.size)).get? b = some o := fun b o z => Heap.get?_push_of_some _ (Heap.get?_push_of_some _ z)
  have at_ : ((hp.push (PySem.W.kdv_tup [])).push (PySem.HandSPX.excO C hp.objs.size)).get? e = some (PySem.HandSPX.excO C hp.objs.size) := by
    rw [he]
    heap_get
  have J : Inv X pins σ (upd H e (exo e C none)) ⟨(hp.push (PySem.W.kdv_tup [])).push (PySem.HandSPX.excO C hp.objs.size), g0, dr, tk, os⟩ := I.laid (t' := tk) up le (exo_ok at_)
  have hq := h e ne
  have go := Fn.run _ X.stack _ _ ⟨[Value.ref e], ks.zip ws⟩ (g [Value.ref e] ws) (gV [V.ref e] zs) _ E0 (hr.make C [] (ks.zip ws)) (J.env0.make C [] (ks.zip ws)) (hb.to _ [Value.ref e] ws J.kIn rfl (rz.length.symm.trans l2)) (hb.rel (.cons rfl .nil) rz) hq
  subst he
  refine wpAny_call (callK PySem.F.excBase_ValueError (fun Y => PySem.HandSPX.refsVE_contains Y bm hbm) (I.kIn _ _ hC) (PySem.W.looks_findIn I.kIn iC) (fun self => PySem.W.bind_fn I.kIn self tI) (codeAny_mono go fun r s' z => ?_))
  match r, z with
  | .error er, z => exact False.elim z
  | .ok .next, z => exact False.elim z
  | .ok .brk, z => exact False.elim z
  | .ok .cont, z => exact False.elim z
  | .ok (.ret u), z =>
    obtain ⟨v, H2, I3, rv, ev, q3⟩ := J.after z
    subst ev
    exact And.intro rv ⟨V.ref (hp.objs.size + 1), H2, I3, rfl, q3⟩
end
/-- C(e): the error is laid -/
def tEv (C : Addr) (fs : V → List (Str × V)) (ta : TA) : TE := fun σ H Q => ta σ H fun vs H1 => ∃ v, vs = [v] ∧ ∀ a H2, Same H1 H2 → XV H2 a C (fs v) → Q (.ref a) H2
def tEv2 (C : Addr) (fs : V → V → List (Str × V)) (ta : TA) : TE := fun σ H Q => ta σ H fun vs H1 => ∃ v u, vs = [v, u] ∧ ∀ a H2, Same H1 H2 → XV H2 a C (fs v u) → Q (.ref a) H2
def tEv0 (C : Addr) (fs : List (Str × V)) : TE := fun _ H Q => ∀ a H2, Same H H2 → XV H2 a C fs → Q (.ref a) H2
theorem ev_same {H : Hp} {a d : Addr} {o u : HO} (na : H a = none) (nd : H d = none) : Same H (upd (upd H d o) a u) := fun y z e => by
  rw [upd_ne (ne_of_none e na), upd_ne (ne_of_none e nd)]
  exact e
theorem laid_eq {H H' : Hp} {a d C : Addr} {fs : List (Str × V)} (hd : d ≠ a) (e1 : H' a = some (exo a C (some d))) (e2 : H' d = some (exd d fs)) (e3 : ∀ b, b ≠ a → b ≠ d → H' b = upd H a (exo a C none) b) : H' = upd (upd H d (exd d fs)) a (exo a C (some d)) := by
  funext b
  by_cases h1 : b = a
  · rw [h1, upd_same, e1]
  · rw [upd_ne h1]
    by_cases h2 : b = d
    · rw [h2, upd_same, e2]
    · rw [upd_ne h2, e3 b h1 h2, upd_ne h1]
/-- __init__(self, v, u) -/
def spErr2 (C : Addr) (fs : V → V → List (Str × V)) : Sp := fun vs H Q _ => ∃ (a : Addr) (v u : V), vs = [.ref a, v, u] ∧ H a = some (exo a C none) ∧
  ∀ (d : Addr) (H' : Hp), H d = none → d ≠ a → H' a = some (exo a C (some d)) → H' d = some (exd d (fs v u)) → (∀ b, b ≠ a → b ≠ d → H' b = H b) → Q .non H'
structure EDf2 (P : Program) (w : World) (K : PySem.W.Frag) (mg : Str → Option Value) (base : Heap) (k : Nat) (x : Str) (C : Addr) (p q : Str) (fs : V → V → List (Str × V)) : Prop where
  ex : ∃ (fI : Addr) (fd : FuncData), ErrC K mg x C fI ∧ FnOk P w K mg base CX0 k fI fd ["self", p, q] (spErr2 C fs) ∧ Binds K fd ["self", p, q] [] ∧ ∃ g, KBn K fd ["self", p, q] 1 [q, p] g (fun vs zs => vs ++ zs.reverse)
structure EDfK (P : Program) (w : World) (K : PySem.W.Frag) (mg : Str → Option Value) (base : Heap) (k : Nat) (x : Str) (C : Addr) (p : Str) (fs : V → List (Str × V)) : Prop where
  ex : ∃ (fI : Addr) (fd : FuncData), ErrC K mg x C fI ∧ FnOk P w K mg base CX0 k fI fd ["self", p] (spErr C fs) ∧ ∃ g, KBn K fd ["self", p] 1 [p] g (fun vs zs => vs ++ zs)
section
variable {X : Cx} {k j : Nat} {x q q2 : Str} {C : Addr} {e e2 : Expr} {ta tk : TA} {p pos : Pos} {kws : List Keyword}
theorem pe_ev {fs : V → List (Str × V)} (D : EDf X.prog X.w X.K X.mg X.base k x C q fs) (hr : Room j X.A) (hk : k + 1 ≤ j) (hg : Gl X x) (ha : PA X [e] ta)
    (hdb : (x == ("__debug__" : Str)) = false := by decide) (he : starEach [e] X.env = (false, eval e X.env) :: starEach [] X.env := by rfl) (hpl : (backTo pos (starEach [] X.env)).any (·.1) = false := by rfl) :
    PE X (.Call (.Name x p) [e] [] pos) (tEv C fs ta) := by
  obtain ⟨fI, fd, T, F, hb⟩ := D.ex
  refine ⟨fun pins s σ H Q I h => ?_⟩
  refine wpAny_Call_Name_kw (ld_glob I hg T.gC ?_ hdb)
  refine PySem.W.callWith_K (h₀ := X.base) I.ok.mod.kin T.ox.kC (thn (ha.run pos pins s σ H _ I h) fun us s1 ⟨vs, H1, I1, r1, v, ev, q1⟩ => ⟨I1.kIn, ?_⟩) he hpl
  show wpAny _ _ (call (.ref C) us) _ _ _
  subst ev
  refine run_ev T.ox T.iC T.tI F (hr.mono hk) hb I1 r1 (by show 1 ≤ 1000; decide) fun a ha => ⟨a, v, rfl, upd_same, fun d H' hd hda e1 e2 e3 => ⟨rfl, ?_⟩⟩
  rw [laid_eq hda e1 e2 e3]
  rw [upd_ne hda] at hd
  exact q1 a _ (ev_same ha hd) (.inr ⟨d, upd_same, by rw [upd_ne hda, upd_same]⟩)
theorem pe_ev2 {fs : V → V → List (Str × V)} (D : EDf2 X.prog X.w X.K X.mg X.base k x C q q2 fs) (hr : Room j X.A) (hk : k + 1 ≤ j) (hg : Gl X x) (ha : PA X [e, e2] ta)
    (hdb : (x == ("__debug__" : Str)) = false := by decide) (he : starEach [e, e2] X.env = (false, eval e X.env) :: starEach [e2] X.env := by rfl) (hpl : (backTo pos (starEach [e2] X.env)).any (·.1) = false := by rfl) :
    PE X (.Call (.Name x p) [e, e2] [] pos) (tEv2 C fs ta) := by
  obtain ⟨fI, fd, T, F, hb, _⟩ := D.ex
  refine ⟨fun pins s σ H Q I h => ?_⟩
  refine wpAny_Call_Name_kw (ld_glob I hg T.gC ?_ hdb)
  refine PySem.W.callWith_K (h₀ := X.base) I.ok.mod.kin T.ox.kC (thn (ha.run pos pins s σ H _ I h) fun us s1 ⟨vs, H1, I1, r1, v, u, ev, q1⟩ => ⟨I1.kIn, ?_⟩) he hpl
  show wpAny _ _ (call (.ref C) us) _ _ _
  subst ev
  refine run_ev T.ox T.iC T.tI F (hr.mono hk) hb I1 r1 (by show 2 ≤ 1000; decide) fun a ha => ⟨a, v, u, rfl, upd_same, fun d H' hd hda e1 e2 e3 => ⟨rfl, ?_⟩⟩
  rw [laid_eq hda e1 e2 e3]
  rw [upd_ne hda] at hd
  exact q1 a _ (ev_same ha hd) (.inr ⟨d, upd_same, by rw [upd_ne hda, upd_same]⟩)
/-- C() -/
theorem pe_ev0 {fs : List (Str × V)} (D : EDf0 X.prog X.w X.K X.mg X.base k x C fs) (hr : Room j X.A) (hk : k + 1 ≤ j) (hg : Gl X x) (hdb : (x == ("__debug__" : Str)) = false := by decide) : PE X (.Call (.Name x p) [] [] pos) (tEv0 C fs) := by
  obtain ⟨fI, fd, T, F, hb⟩ := D.ex
  refine ⟨fun pins s σ H Q I h => ?_⟩
  refine wpAny_Call_Name_kw (ld_glob I hg T.gC (PySem.W.callWith_K0 I.kIn T.ox.kC ?_) hdb)
  show wpAny _ _ (call (.ref C) []) _ _ _
  refine run_ev (vs := []) T.ox T.iC T.tI F (hr.mono hk) hb I .nil (Nat.zero_le _) fun a ha => ⟨a, rfl, upd_same, fun d H' hd hda e1 e2 e3 => ⟨rfl, ?_⟩⟩
  rw [laid_eq hda e1 e2 e3]
  rw [upd_ne hda] at hd
  exact h a _ (ev_same ha hd) (.inr ⟨d, upd_same, by rw [upd_ne hda, upd_same]⟩)
/-- C(), no own __init__ -/
theorem pe_evP {bmB : List Value} {B newId initId : String} (Fb : ExcBaseFacts B newId initId bmB) (qc : PySem.W.excIn X.K C bmB newId = true) (gC : X.mg x = some (.ref C)) (kC : PySem.W.keepIn X.K (.ref C) = true) (hg : Gl X x)
    (hdb : (x == ("__debug__" : Str)) = false := by decide) : PE X (.Call (.Name x p) [] [] pos) (fun _ H Q => ∀ a H2, Same H H2 → XV H2 a C [] → Q (.ref a) H2) := by
  refine ⟨fun pins s σ H Q I h => ?_⟩
  refine wpAny_Call_Name_kw (ld_glob I hg gC (PySem.W.callWith_K0 I.kIn kC ?_) hdb)
  obtain ⟨bm, N, nm, qn, bs, hdct, sn, sub, ab, col, dd, k0, k1, k2, k3, k5, mN, hC, hN, hni, T⟩ := exc_obj I.kIn qc
  refine wpAny_call_exc_subT Fb T hC hN hni (fun h' a hm => ?_) (Nat.zero_le _)
  have hn : H a = none := I.hok.gone hm.new
  obtain ⟨t, ht, _, _⟩ := hm.there
  exact ⟨.ref a, upd H a (exo a C none), I.laidN hm.keeps hm.new hn (exo_ok ht), rfl, h a _ (Same.new hn) (.inl ⟨rfl, upd_same⟩)⟩
/-- C(p=e) -/
theorem pe_evK {fs : V → List (Str × V)} (D : EDfK X.prog X.w X.K X.mg X.base k x C q fs) (hr : Room j X.A) (hk : k + 1 ≤ j) (hg : Gl X x) (hw : PK X kws tk)
    (hall : (backToKw pos (keywordEach kws X.env)).all (·.1.isSome) = true := by rfl) (hks : (backToKw pos (keywordEach kws X.env)).filterMap (·.1) = [q] := by rfl)
    (hdb : (x == ("__debug__" : Str)) = false := by decide) (hpl : ((backTo pos (starEach [] X.env)).any (·.1) || (backToKw pos (keywordEach kws X.env)).any (·.1.isNone)) = false := by rfl) :
    PE X (.Call (.Name x p) [] kws pos) (tEv C fs tk) := by
  obtain ⟨fI, fd, T, F, g, hb⟩ := D.ex
  refine ⟨fun pins s σ H Q I h => wpAny_Call_Name_kw (ld_glob I hg T.gC ?_ hdb)⟩
  refine PySem.W.callWith_KW0 (h₀ := X.base) I.ok.mod.kin T.ox.kC hall ?_ hpl
  refine thn (hw.run pos pins s σ H _ I h) fun ws s2 ⟨zs, H2, I2, rz, v, ev, q1⟩ => ⟨I2.kIn, ?_⟩
  rw [hks]
  subst ev
  refine run_evK T.ox T.iC T.tI F (hr.mono hk) hb I2 rz rfl fun a ha => ⟨a, v, rfl, upd_same, fun d H' hd hda e1 e2 e3 => ⟨rfl, ?_⟩⟩
  rw [laid_eq hda e1 e2 e3]
  rw [upd_ne hda] at hd
  exact q1 a _ (ev_same ha hd) (.inr ⟨d, upd_same, by rw [upd_ne hda, upd_same]⟩)
/-- C(q2=e, q=e2) of an __init__(self, q, q2) -/
theorem pe_evK2 {fs : V → V → List (Str × V)} (D : EDf2 X.prog X.w X.K X.mg X.base k x C q q2 fs) (hr : Room j X.A) (hk : k + 1 ≤ j) (hg : Gl X x) (hw : PK X kws tk)
    (hall : (backToKw pos (keywordEach kws X.env)).all (·.1.isSome) = true := by rfl) (hks : (backToKw pos (keywordEach kws X.env)).filterMap (·.1) = [q2, q] := by rfl)
    (hdb : (x == ("__debug__" : Str)) = false := by decide) (hpl : ((backTo pos (starEach [] X.env)).any (·.1) || (backToKw pos (keywordEach kws X.env)).any (·.1.isNone)) = false := by rfl) :
    PE X (.Call (.Name x p) [] kws pos) (tEv2 C (fun u v => fs v u) tk) := by
  obtain ⟨fI, fd, T, F, _, g, hb⟩ := D.ex
  refine ⟨fun pins s σ H Q I h => wpAny_Call_Name_kw (ld_glob I hg T.gC ?_ hdb)⟩
  refine PySem.W.callWith_KW0 (h₀ := X.base) I.ok.mod.kin T.ox.kC hall ?_ hpl
  refine thn (hw.run pos pins s σ H _ I h) fun ws s2 ⟨zs, H2, I2, rz, u, v, ev, q1⟩ => ⟨I2.kIn, ?_⟩
  rw [hks]
  subst ev
  refine run_evK T.ox T.iC T.tI F (hr.mono hk) hb I2 rz rfl fun a ha => ⟨a, v, u, rfl, upd_same, fun d H' hd hda e1 e2 e3 => ⟨rfl, ?_⟩⟩
  rw [laid_eq hda e1 e2 e3]
  rw [upd_ne hda] at hd
  exact q1 a _ (ev_same ha hd) (.inr ⟨d, upd_same, by rw [upd_ne hda, upd_same]⟩)
end
/-- e.f of an error that is held -/
def tFv (K : PySem.W.Frag) (f : Str) (te : TE) : TE := fun σ H Q => te σ H fun x H1 => ∃ (a C : Addr) (fs : List (Str × V)) (v : V), x = .ref a ∧ EcF K C ∧ PySem.W.findIn K (.ref C) f = some none ∧ XV H1 a C fs ∧ fs.lookup f = some v ∧ Q v H1
theorem pe_fv {X : Cx} {e : Expr} {te : TE} {n : Str} {pos : Pos} (he : PE X e te) (hb : attributeBase e n X.env (eval e X.env) = eval e X.env := by rfl) : PE X (.Attribute e n pos) (tFv X.K n te) := by
  refine ⟨fun pins s σ H Q I h => ?_⟩
  refine attr_of hb (thn (he.run pins s σ H _ I h) fun u s1 ⟨x, H1, I1, rx, a, C, fs, v, ex, F, hno, xv, l, q⟩ => ?_)
  subst ex
  obtain rfl : u = Value.ref a := rx
  rcases xv with ⟨e0, _⟩ | ⟨d, ea, ed⟩
  · rw [e0] at l
    cases l
  · obtain ⟨t1, ho⟩ := exo_at I1.hok ea
    obtain ⟨mA, hns, hr⟩ := exd_at I1.hok ed
    obtain ⟨od, hod, hl⟩ := lookIn_ns hns
    obtain ⟨u, hu, ru⟩ := RelO.some_of (v := v) (o := mA n) (by rw [← l]; exact hr n)
    have J : PySem.W.InstAt s1.heap a { cls := .ref C, dict := some d, data := .fields #[.ref t1, .none, .none, .none, .bool false, .none] } C (some od) := ⟨ho, rfl, rfl, hod⟩
    exact HandSPX.exc_get I1.kIn J F.xf.ga F.xf.gg F.xf.exC (PySem.W.findObj_own F.xf.hdC hno rfl (by rw [hl, hu])) (handed_of ru) ⟨v, H1, I1.tok _, ru, q⟩
/-- isinstance(e, c) of such -/
def rIsE (K : PySem.W.Frag) : List V → Hp → VK → Prop := fun xs H Q => ∃ (a C : Addr) (c : V) (u : Value) (fs : List (Str × V)) (b : Bool), xs = [.ref a, c] ∧ ClsV c u ∧ EcF K C ∧ EgF K ∧ XV H a C fs ∧ PySem.W.kitOne K (.ref C) u = some b ∧ Q (.bl b) H
theorem call_isE {X : Cx} : CallR X (.builtin "isinstance") (rIsE X.K) := by
  intro pins s σ H xs us Q I r h
  obtain ⟨a, C, c, u, fs, b, rfl, k, F, G, xv, e, q⟩ := h
  obtain ⟨u1, u2, rfl, r1, r2⟩ := vals2 r
  have e2 := k.eq r2
  subst e2
  cases (show u1 = Value.ref a from r1)
  rcases xv with ⟨_, ea⟩ | ⟨d, ea, ed⟩
  · obtain ⟨t1, ho⟩ := exo_at I.hok ea
    have J : PySem.W.InstAt s.heap a { cls := .ref C, dict := none, data := .fields #[.ref t1, .none, .none, .none, .bool false, .none] } C none := ⟨ho, rfl, rfl, trivial⟩
    exact PySem.W.kia_one (PySem.W.kitx_exc F.cl F.xf.ga F.xf.gg F.xf.exC F.ca G.hn G.tk F.mo) I.kIn J e (fun z => nomatch z) fun tk => ⟨.bl b, H, I.tok tk, rfl, q⟩
  · obtain ⟨t1, ho⟩ := exo_at I.hok ea
    obtain ⟨mA, hns, hr⟩ := exd_at I.hok ed
    obtain ⟨od, hod, hl⟩ := lookIn_ns hns
    have J : PySem.W.InstAt s.heap a { cls := .ref C, dict := some d, data := .fields #[.ref t1, .none, .none, .none, .bool false, .none] } C (some od) := ⟨ho, rfl, rfl, hod⟩
    exact PySem.W.kia_one (PySem.W.kitx_exc F.cl F.xf.ga F.xf.gg F.xf.exC F.ca G.hn G.tk F.mo) I.kIn J e (fun z => nomatch z) fun tk => ⟨.bl b, H, I.tok tk, rfl, q⟩
end IC
namespace IC
open PySem L2 TL PyProof.Rows
/-! ### many classes of errors -/
def flds : List Str := ["case", "face", "first", "index", "kept", "line", "mode", "name", "number", "record", "thing", "what", "word"]
def clOf (l : List Addr) (k : Nat) : Addr := l.getD k 0
theorem clOf_mem {l : List Addr} {k : Nat} (h : k < l.length) : clOf l k ∈ l := by
  unfold clOf
  rw [List.getD_eq_getElem?_getD, List.getElem?_eq_getElem h]
  exact List.getElem_mem h
def ecTab (K : PySem.W.Frag) (l : List Addr) : Bool := l.all fun C => xfB K C && ((PySem.W.clsIn K C).isSome && (decide (PySem.W.findIn K (.ref C) "__class__" = some (some (.builtin "object.__class__"))) && decide (PySem.W.mroIn K C (.type "object") = some true)))
theorem ecTab_ok {K : PySem.W.Frag} {l : List Addr} (hO : ∀ C ∈ l, OexC K C) (h : ecTab K l = true) : ∀ C ∈ l, EcF K C := fun C hC => by
  have q := List.all_eq_true.mp h C hC
  rw [Bool.and_eq_true, Bool.and_eq_true, Bool.and_eq_true, decide_eq_true_iff, decide_eq_true_iff] at q
  exact ⟨hO C hC, xfB_ok q.1, q.2.1, q.2.2.1, q.2.2.2⟩
def kitTab (K : PySem.W.Frag) (l : List Addr) : Bool := (List.range 25).all fun k => (List.range 25).all fun j => decide (PySem.W.kitOne K (.ref (clOf l k)) (.ref (clOf l j)) = some (decide (j = k)))
theorem kitTab_ok {K : PySem.W.Frag} {l : List Addr} (h : kitTab K l = true) {k j : Nat} (hk : k < 25) (hj : j < 25) : PySem.W.kitOne K (.ref (clOf l k)) (.ref (clOf l j)) = some (decide (j = k)) :=
  of_decide_eq_true (List.all_eq_true.mp (List.all_eq_true.mp h k (List.mem_range.mpr hk)) j (List.mem_range.mpr hj))
def topTab (K : PySem.W.Frag) (CI : Addr) (l : List Addr) : Bool := l.all fun C => decide (PySem.W.kitOne K (.ref C) (.ref CI) = some true) && decide (PySem.W.kitOne K (.ref C) (.type "ValueError") = some true)
theorem topTab_ok {K : PySem.W.Frag} {CI : Addr} {l : List Addr} (h : topTab K CI l = true) : ∀ C ∈ l, PySem.W.kitOne K (.ref C) (.ref CI) = some true ∧ PySem.W.kitOne K (.ref C) (.type "ValueError") = some true := fun C hC => by
  have q := List.all_eq_true.mp h C hC
  rw [Bool.and_eq_true, decide_eq_true_iff, decide_eq_true_iff] at q
  exact q
def noTab (K : PySem.W.Frag) (l : List Addr) : Bool := l.all fun C => flds.all fun x => decide (PySem.W.findIn K (.ref C) x = some none)
theorem noTab_ok {K : PySem.W.Frag} {l : List Addr} (h : noTab K l = true) : ∀ C ∈ l, ∀ x ∈ flds, PySem.W.findIn K (.ref C) x = some none := fun C hC x hx => of_decide_eq_true (List.all_eq_true.mp (List.all_eq_true.mp h C hC) x hx)
theorem vals_rev : ∀ {vs : List V} {us : List Value}, Vals vs us → Vals vs.reverse us.reverse
  | _, _, .nil => .nil
  | _, _, .cons r t => by
    rw [List.reverse_cons, List.reverse_cons]
    exact (vals_rev t).append (.cons r .nil)
/-- a def without defaults, called by keywords -/
theorem kbn_of {K : PySem.W.Frag} {x qual : Str} {st : Stmt} {f : Addr} {fd : FuncData} {ps : List Str} (F : Fun K x qual st f fd) (n : Nat) (ks : List Str) (g : {α : Type} → List α → List α → List α)
    (hrel : ∀ {vs zs : List V} {us ws : List Value}, Vals vs us → Vals zs ws → Vals (g vs zs) (g us ws))
    (h : ∀ (kV doc pm : Value) (an : Option Addr) (cdv ct : Value) (us ws : List Value), us.length = n → ws.length = ks.length → bindArgs (PySem.W.fnOf x qual (defArgs st) (defBody st) (defScope st) .none kV doc pm an cdv ct) ⟨us, ks.zip ws⟩ = pure (ps.zip (g us ws))) :
    KBn K fd ps n ks (fun us ws => g us ws) (fun vs zs => g vs zs) := by
  obtain ⟨oc, od, kV, doc, pm, an, cdv, ct, osl, rfl, lk, hcd⟩ := F.ex
  exact ⟨fun s us ws X l1 l2 => BindsTo.of_looks fun M => .of_pure (h kV doc pm an cdv ct us ws l1 l2), fun r1 r2 => hrel r1 r2⟩
end IC
namespace IC
open PySem L2 TL
open PyProof.Rows (sortedS)
/-! ### data that is short enough to be shown -/
structure Fine (d : PyData) (n k : Nat) : Prop where
  s : d.showable = true
  l : d.leavesShort 16 = true
  b : d.bulk ≤ n
  d : d.depth ≤ k
structure FineAll (ds : List PyData) (n k : Nat) : Prop where
  s : PyData.showableAll ds = true
  l : PyData.leavesShortAll 16 ds = true
  b : PyData.bulkAll ds ≤ n
  d : PyData.depthAll ds ≤ k
theorem fine_none : Fine .none 0 0 := ⟨rfl, rfl, Nat.le_refl _, Nat.le_refl _⟩
theorem fine_bool (b : Bool) : Fine (.bool b) 0 0 := ⟨rfl, rfl, Nat.le_refl _, Nat.le_refl _⟩
theorem fine_int {i : Int} (h : i.natAbs < 10 ^ 15) : Fine (.int i) 0 0 := by
  refine ⟨?_, ?_, Nat.le_refl _, Nat.le_refl _⟩
  · show decide (i.natAbs.log2 < 1920) = true
    refine decide_eq_true ?_
    by_cases e : i.natAbs = 0
    · rw [e]
      decide
    · refine (Nat.log2_lt e).mpr (Nat.lt_of_lt_of_le h ?_)
      exact Nat.le_trans (by decide : 10 ^ 15 ≤ 2 ^ 50) (Nat.pow_le_pow_right (by decide) (by decide))
  · show decide ((PyData.shown (.int i)).length ≤ 16) = true
    have e := int_text_length_le10 (k := 15) (by decide) h
    refine decide_eq_true ?_
    simp only [PyData.shown]
    have q : (Str.ofString (toString i)).length ≤ 16 := by rw [ofString_length]; exact e
    exact q
theorem fine_str {z : Str} {n : Nat} (h1 : (tl z).length ≤ n) (h2 : ∀ c ∈ tl z, c < 1000) : Fine (.str z) n 0 := by
  refine ⟨rfl, ?_, ?_, Nat.le_refl _⟩
  · show (tl z).all (fun c => decide (c < 16 ^ 8)) = true
    rw [List.all_eq_true]
    intro c hc
    exact decide_eq_true (Nat.lt_trans (h2 c hc) (by decide))
  · have e : PyData.bulk (.str z) = (tl z).length := by simp [PyData.bulk, tl]
    rw [e]
    exact h1
theorem fine_word {z : Str} (h : IsW z) : Fine (.str z) 8 0 := fine_str h.2.1 fun c hc => by
  have := (h.2.2 c hc).2
  omega
theorem Fine.up {d : PyData} {n k n' k' : Nat} (h : Fine d n k) (e : n ≤ n') (e2 : k ≤ k') : Fine d n' k' := ⟨h.s, h.l, Nat.le_trans h.b e, Nat.le_trans h.d e2⟩
theorem fine_nil : FineAll [] 0 0 := ⟨rfl, rfl, Nat.le_refl _, Nat.le_refl _⟩
theorem FineAll.cons {d : PyData} {ds : List PyData} {n m k : Nat} (h : Fine d n k) (hs : FineAll ds m k) : FineAll (d :: ds) (n + 1 + m) k := by
  refine ⟨?_, ?_, ?_, ?_⟩
  · simp only [PyData.showableAll, h.s, hs.s, Bool.and_self]
  · simp only [PyData.leavesShortAll, h.l, hs.l, Bool.and_self]
  · have := h.b
    have := hs.b
    simp only [PyData.bulkAll]
    omega
  · have := h.d
    have := hs.d
    simp only [PyData.depthAll]
    omega
theorem FineAll.up {ds : List PyData} {n k n' k' : Nat} (h : FineAll ds n k) (e : n ≤ n') (e2 : k ≤ k') : FineAll ds n' k' := ⟨h.s, h.l, Nat.le_trans h.b e, Nat.le_trans h.d e2⟩
theorem FineAll.list {ds : List PyData} {n k : Nat} (h : FineAll ds n k) : Fine (.list ds) n (k + 1) :=
  ⟨by simpa only [PyData.showable] using h.s, by simpa only [PyData.leavesShort] using h.l, by simpa only [PyData.bulk] using h.b, by have := h.d; simp only [PyData.depth]; omega⟩
theorem FineAll.tup {ds : List PyData} {n k : Nat} (h : FineAll ds n k) : Fine (.tuple ds) n (k + 1) :=
  ⟨by simpa only [PyData.showable] using h.s, by simpa only [PyData.leavesShort] using h.l, by simpa only [PyData.bulk] using h.b, by have := h.d; simp only [PyData.depth]; omega⟩
theorem fine_map {α : Type} {f : α → PyData} {n k : Nat} : ∀ {l : List α}, (∀ x ∈ l, Fine (f x) n k) → FineAll (l.map f) ((n + 1) * l.length) k
  | [], _ => fine_nil.up (Nat.zero_le _) (Nat.zero_le _)
  | x :: l, h => by
    have := (FineAll.cons (h x List.mem_cons_self) (fine_map (l := l) fun y hy => h y (List.mem_cons_of_mem _ hy)))
    refine this.up ?_ (Nat.le_refl _)
    rw [List.length_cons, Nat.mul_add, Nat.mul_one]
    omega
theorem Fine.show {d : PyData} {n k : Nat} (h : Fine d n k) (hn : n ≤ 100000) (hk : k ≤ 20) : d.showable = true ∧ d.depth ≤ 20 ∧ d.shown.length ≤ sizeLine := by
  refine ⟨h.s, Nat.le_trans h.d hk, ?_⟩
  refine Nat.le_trans (PyData.shown_le_bulk 16 (by decide) _ h.l) ?_
  have b := h.b
  show (16 + 2) * _ + 16 ≤ 2 ^ 24
  omega
end IC
namespace IC
open PySem PySem.Spec PyProof.Rows L2 TL
/-- repr of any data -/
theorem call_reprA {X : Cx} (hgd : X.A.guards = some []) (hu : X.A.units + 64 < cLine) : CallR X (.builtin "repr") (fun xs H Q => ∃ (v : V) (d : PyData), xs = [v] ∧ Dp X.K H v d ∧ d.showable = true ∧ d.hasDict = false ∧ d.depth ≤ 20 ∧ d.shown.length ≤ sizeLine ∧ Q (.str d.shown) H) := by
  intro pins s σ H xs us Q I r h
  obtain ⟨v, d, rfl, hd, h1, h2, h3, h4, q⟩ := h
  obtain ⟨u, rfl, ru⟩ := vals1 r
  cases hd with
  | non =>
    obtain rfl : u = Value.none := ru
    simp only [PyData.shown] at q
    exact PySem.P.repr_of_none ⟨.str _, H, I.tok _, ⟨_, rfl⟩, q⟩
  | bl b =>
    obtain rfl : u = Value.bool b := ru
    simp only [PyData.shown] at q
    exact PySem.P.repr_of_bool ⟨.str _, H, I.tok _, ⟨_, rfl⟩, by cases b <;> exact q⟩
  | int i =>
    obtain ⟨t, rfl⟩ := ru
    have hz : i.natAbs.log2 < 1920 := of_decide_eq_true h1
    simp only [PyData.shown] at q
    exact PySem.P.repr_of_int hz ⟨.str _, H, I.tok _, ⟨_, rfl⟩, q⟩
  | str x =>
    obtain ⟨t, rfl⟩ := ru
    simp only [PyData.shown] at q h4
    exact PySem.P.repr_of_str ⟨.str _, H, I.tok _, ⟨_, rfl⟩, q⟩ h4
  | @lst a xs ds s1 t =>
    obtain rfl : u = Value.ref a := ru
    obtain ⟨as, rd⟩ := (Dp.lst s1 t).reads I _ _ _ rfl
    refine repr_of_reads' rd h1 (fun e => by rw [h2] at e; cases e) hgd (by omega) (fun _ _ e => e) (fun h' w' tk kp => ⟨.str _, H, I.kept (t' := tk) kp, ⟨_, rfl⟩, q⟩) h4
  | @tup a xs ds s1 t =>
    obtain rfl : u = Value.ref a := ru
    obtain ⟨as, rd⟩ := (Dp.tup s1 t).reads I _ _ _ rfl
    refine repr_of_reads' rd h1 (fun e => by rw [h2] at e; cases e) hgd (by omega) (fun _ _ e => e) (fun h' w' tk kp => ⟨.str _, H, I.kept (t' := tk) kp, ⟨_, rfl⟩, q⟩) h4
theorem SqT.mv {K : PySem.W.Frag} {H H' : Hp} {a : Addr} {xs : List V} (e : Same H H') (h : SqT K H a xs) : SqT K H' a xs := by
  rcases h with (h | ⟨o, h⟩) | h
  · exact .inl (.inl (e _ _ h))
  · exact .inl (.inr ⟨o, e _ _ h⟩)
  · exact .inr h
mutual
theorem Dp.mv {K : PySem.W.Frag} {H H' : Hp} (e : Same H H') : ∀ {v : V} {d : PyData}, Dp K H v d → Dp K H' v d
  | _, _, .non => .non
  | _, _, .bl b => .bl b
  | _, _, .int i => .int i
  | _, _, .str x => .str x
  | _, _, .lst s h => .lst (e.seq s) (DpAll.mv e h)
  | _, _, .tup s h => .tup (SqT.mv e s) (DpAll.mv e h)
theorem DpAll.mv {K : PySem.W.Frag} {H H' : Hp} (e : Same H H') : ∀ {vs : List V} {ds : List PyData}, DpAll K H vs ds → DpAll K H' vs ds
  | _, _, .nil => .nil
  | _, _, .cons h t => .cons (Dp.mv e h) (DpAll.mv e t)
end
end IC
namespace IC
open PySem L2 TL
/-! ### the text by places -/
def top (i : Nat) : Stmt := PySem.Challenge.pw_innercommits_k88_errors_made_by_hand.main.body.getD i (.Pass ⟨0, 0, 0, 0⟩)
abbrev s_law_pool : Stmt := top 28
abbrev s_law_draw : Stmt := top 29
abbrev s_law_word : Stmt := top 30
abbrev s_BadChange___init__ : Stmt := inClass (top 11) 0
abbrev s_BadLibrary___init__ : Stmt := inClass (top 7) 0
abbrev s_BadMode___init__ : Stmt := inClass (top 3) 0
abbrev s_BadMove___init__ : Stmt := inClass (top 13) 0
abbrev s_BadRecords___init__ : Stmt := inClass (top 12) 0
abbrev s_BadWord___init__ : Stmt := inClass (top 2) 0
abbrev s_Clash___init__ : Stmt := inClass (top 9) 0
abbrev s_Doomed___init__ : Stmt := inClass (top 21) 0
abbrev s_Endless___init__ : Stmt := inClass (top 8) 0
abbrev s_Failed___init__ : Stmt := inClass (top 26) 0
abbrev s_Missing___init__ : Stmt := inClass (top 22) 0
abbrev s_NoCall___init__ : Stmt := inClass (top 15) 0
abbrev s_NoFace___init__ : Stmt := inClass (top 18) 0
abbrev s_NoFate___init__ : Stmt := inClass (top 19) 0
abbrev s_NoFunction___init__ : Stmt := inClass (top 10) 0
abbrev s_NoRecord___init__ : Stmt := inClass (top 5) 0
abbrev s_NoRow___init__ : Stmt := inClass (top 17) 0
abbrev s_NotNow___init__ : Stmt := inClass (top 14) 0
abbrev s_Present___init__ : Stmt := inClass (top 23) 0
abbrev s_Refused___init__ : Stmt := inClass (top 24) 0
abbrev s_TooMany___init__ : Stmt := inClass (top 6) 0
abbrev s_Unknown___init__ : Stmt := inClass (top 16) 0
abbrev s_Unlike___init__ : Stmt := inClass (top 20) 0
abbrev s_Waits___init__ : Stmt := inClass (top 25) 0
abbrev s_law_thing : Stmt := top 31
abbrev s_law_classes : Stmt := top 32
abbrev s_law_first : Stmt := top 33
abbrev s_law_second : Stmt := top 34
abbrev s_law_fields : Stmt := top 35
abbrev s_law : Stmt := top 36
theorem sc_law_pool : FnScope ["script", "at", "cell", "size", "seed"] ["script", "at"] (defScope s_law_pool) := ⟨rfl, rfl, rfl, by decide +kernel, rfl, by decide +kernel, by decide +kernel⟩
theorem sc_law_draw : FnScope ["pool", "many", "digit", "count", "mixed"] ["pool", "many"] (defScope s_law_draw) := ⟨rfl, rfl, rfl, by decide +kernel, rfl, by decide +kernel, by decide +kernel⟩
theorem sc_law_word : FnScope ["pool", "letters", "k"] ["pool"] (defScope s_law_word) := ⟨rfl, rfl, rfl, by decide +kernel, rfl, by decide +kernel, by decide +kernel⟩
theorem sc_BadChange___init__ : FnScope ["self", "index"] ["self", "index"] (defScope s_BadChange___init__) := ⟨rfl, rfl, rfl, by decide +kernel, rfl, by decide +kernel, by decide +kernel⟩
theorem sc_BadLibrary___init__ : FnScope ["self", "line"] ["self", "line"] (defScope s_BadLibrary___init__) := ⟨rfl, rfl, rfl, by decide +kernel, rfl, by decide +kernel, by decide +kernel⟩
theorem sc_BadMode___init__ : FnScope ["self", "mode"] ["self", "mode"] (defScope s_BadMode___init__) := ⟨rfl, rfl, rfl, by decide +kernel, rfl, by decide +kernel, by decide +kernel⟩
theorem sc_BadMove___init__ : FnScope ["self", "thing"] ["self", "thing"] (defScope s_BadMove___init__) := ⟨rfl, rfl, rfl, by decide +kernel, rfl, by decide +kernel, by decide +kernel⟩
theorem sc_BadRecords___init__ : FnScope ["self", "record"] ["self", "record"] (defScope s_BadRecords___init__) := ⟨rfl, rfl, rfl, by decide +kernel, rfl, by decide +kernel, by decide +kernel⟩
theorem sc_BadWord___init__ : FnScope ["self", "word"] ["self", "word"] (defScope s_BadWord___init__) := ⟨rfl, rfl, rfl, by decide +kernel, rfl, by decide +kernel, by decide +kernel⟩
theorem sc_Clash___init__ : FnScope ["self", "name"] ["self", "name"] (defScope s_Clash___init__) := ⟨rfl, rfl, rfl, by decide +kernel, rfl, by decide +kernel, by decide +kernel⟩
theorem sc_Doomed___init__ : FnScope ["self", "first"] ["self", "first"] (defScope s_Doomed___init__) := ⟨rfl, rfl, rfl, by decide +kernel, rfl, by decide +kernel, by decide +kernel⟩
theorem sc_Endless___init__ : FnScope ["self", "name"] ["self", "name"] (defScope s_Endless___init__) := ⟨rfl, rfl, rfl, by decide +kernel, rfl, by decide +kernel, by decide +kernel⟩
theorem sc_Failed___init__ : FnScope ["self", "word"] ["self", "word"] (defScope s_Failed___init__) := ⟨rfl, rfl, rfl, by decide +kernel, rfl, by decide +kernel, by decide +kernel⟩
theorem sc_Missing___init__ : FnScope ["self", "mode"] ["self", "mode"] (defScope s_Missing___init__) := ⟨rfl, rfl, rfl, by decide +kernel, rfl, by decide +kernel, by decide +kernel⟩
theorem sc_NoCall___init__ : FnScope ["self", "number"] ["self", "number"] (defScope s_NoCall___init__) := ⟨rfl, rfl, rfl, by decide +kernel, rfl, by decide +kernel, by decide +kernel⟩
theorem sc_NoFace___init__ : FnScope ["self", "face"] ["self", "face"] (defScope s_NoFace___init__) := ⟨rfl, rfl, rfl, by decide +kernel, rfl, by decide +kernel, by decide +kernel⟩
theorem sc_NoFate___init__ : FnScope ["self", "kept"] ["self", "kept"] (defScope s_NoFate___init__) := ⟨rfl, rfl, rfl, by decide +kernel, rfl, by decide +kernel, by decide +kernel⟩
theorem sc_NoFunction___init__ : FnScope ["self", "name"] ["self", "name"] (defScope s_NoFunction___init__) := ⟨rfl, rfl, rfl, by decide +kernel, rfl, by decide +kernel, by decide +kernel⟩
theorem sc_NoRecord___init__ : FnScope ["self", "record"] ["self", "record"] (defScope s_NoRecord___init__) := ⟨rfl, rfl, rfl, by decide +kernel, rfl, by decide +kernel, by decide +kernel⟩
theorem sc_NoRow___init__ : FnScope ["self", "name", "case"] ["self", "name", "case"] (defScope s_NoRow___init__) := ⟨rfl, rfl, rfl, by decide +kernel, rfl, by decide +kernel, by decide +kernel⟩
theorem sc_NotNow___init__ : FnScope ["self", "thing"] ["self", "thing"] (defScope s_NotNow___init__) := ⟨rfl, rfl, rfl, by decide +kernel, rfl, by decide +kernel, by decide +kernel⟩
theorem sc_Present___init__ : FnScope ["self", "mode"] ["self", "mode"] (defScope s_Present___init__) := ⟨rfl, rfl, rfl, by decide +kernel, rfl, by decide +kernel, by decide +kernel⟩
theorem sc_Refused___init__ : FnScope ["self"] ["self"] (defScope s_Refused___init__) := ⟨rfl, rfl, rfl, by decide +kernel, rfl, by decide +kernel, by decide +kernel⟩
theorem sc_TooMany___init__ : FnScope ["self", "what"] ["self", "what"] (defScope s_TooMany___init__) := ⟨rfl, rfl, rfl, by decide +kernel, rfl, by decide +kernel, by decide +kernel⟩
theorem sc_Unknown___init__ : FnScope ["self", "name"] ["self", "name"] (defScope s_Unknown___init__) := ⟨rfl, rfl, rfl, by decide +kernel, rfl, by decide +kernel, by decide +kernel⟩
theorem sc_Unlike___init__ : FnScope ["self", "name"] ["self", "name"] (defScope s_Unlike___init__) := ⟨rfl, rfl, rfl, by decide +kernel, rfl, by decide +kernel, by decide +kernel⟩
theorem sc_Waits___init__ : FnScope ["self", "record"] ["self", "record"] (defScope s_Waits___init__) := ⟨rfl, rfl, rfl, by decide +kernel, rfl, by decide +kernel, by decide +kernel⟩
theorem sc_law_thing : FnScope ["pool", "word", "things"] ["pool"] (defScope s_law_thing) := ⟨rfl, rfl, rfl, by decide +kernel, rfl, by decide +kernel, by decide +kernel⟩
theorem sc_law_classes : FnScope ["e", "found"] ["e"] (defScope s_law_classes) := ⟨rfl, rfl, rfl, by decide +kernel, rfl, by decide +kernel, by decide +kernel⟩
theorem sc_law_first : FnScope ["one", "two", "pairs"] ["one", "two"] (defScope s_law_first) := ⟨rfl, rfl, rfl, by decide +kernel, rfl, by decide +kernel, by decide +kernel⟩
theorem sc_law_second : FnScope ["one", "two", "pairs"] ["one", "two"] (defScope s_law_second) := ⟨rfl, rfl, rfl, by decide +kernel, rfl, by decide +kernel, by decide +kernel⟩
theorem sc_law_fields : FnScope ["e", "k"] ["e", "k"] (defScope s_law_fields) := ⟨rfl, rfl, rfl, by decide +kernel, rfl, by decide +kernel, by decide +kernel⟩
theorem sc_law : FnScope ["script", "at", "pool", "one", "two", "pairs", "k", "words", "e", "due", "j"] ["script"] (defScope s_law) := ⟨rfl, rfl, rfl, by decide +kernel, rfl, by decide +kernel, by decide +kernel⟩
/-- the built-in names that no line of the text binds -/
structure Bn (mg : Str → Option Value) : Prop where
  int : mg "int" = none
  len : mg "len" = none
  abs : mg "abs" = none
  range : mg "range" = none
  max : mg "max" = none
  min : mg "min" = none
  isi : mg "isinstance" = none
  repr : mg "repr" = none
  VE : mg "ValueError" = none
end IC
namespace IC
open PySem L2 TL
section
variable {P : Program} {w : World} {K : PySem.W.Frag} {mg : Str → Option Value} {base : Heap}
theorem ok_draw {f : Addr} {fd : FuncData} (F : Fun K "_law_draw" "_law_draw" s_law_draw f fd) (T : Bn mg) : FnOk P w K mg base CX0 1 f fd ["pool", "many"] spDraw := by
  refine F.ok sc_law_draw (fun vs H Q E h => ?_) (fun cdv A outer s H vs Q E hr h => ?_)
  · obtain ⟨p, m, n, rfl, _⟩ := h
    rfl
  · obtain ⟨p, m, n, rfl, ⟨a, b, c, hp, a0, b0, b1, c0, c1⟩, hn, m0, m1, k⟩ := h
    refine ⟨_, (pss_cons (ps_if (pt_cmpR op_gt (pe_ix ix_list (pv 0) pe_int (fun _ _ => rfl)) pe_int (nomark _))
  (pss_cons (ps_set (i := 2) sc_law_draw.nd rfl (Or.inl rfl) (pe_op op_mod (pe_callTy call_int1 (by rfl) T.int (by decide +kernel) (pa_cons (pe_ix ix_list (pv 0) pe_int (fun _ _ => rfl)) pa_nil)) (pv 1)))
  (pss_cons (ps_asg (pe_op op_fdivW (pe_ix ix_list (pv 0) pe_int (fun _ _ => rfl)) (pv 1)) (pg_sub (pv 0) pe_int set_list))
  (pss_one (ps_ret (pv 2)))))
  pss_nil)
  (pss_cons (ps_set (i := 3) sc_law_draw.nd rfl (Or.inl rfl) (pe_op op_add (pe_ix ix_list (pv 0) pe_int (fun _ _ => rfl)) pe_int))
  (pss_cons (ps_asg (pv 3) (pg_sub (pv 0) pe_int set_list))
  (pss_cons (ps_set (i := 4) sc_law_draw.nd rfl (Or.inl rfl) (pe_op op_mod (pe_callTy call_int1 (by rfl) T.int (by decide +kernel) (pa_cons (pe_op op_add (pe_op op_pow (pe_op op_add (pe_ix ix_list (pv 0) pe_int (fun _ _ => rfl)) (pe_op op_mul pe_int (pv 3))) pe_int) (pe_op op_mul pe_int (pv 3))) pa_nil)) pe_int))
  (pss_cons (ps_set (i := 4) sc_law_draw.nd rfl (Or.inl rfl) (pe_op op_mod (pe_callTy call_int1 (by rfl) T.int (by decide +kernel) (pa_cons (pe_op op_pow (pe_op op_add (pv 4) (pe_op op_mul pe_int (pv 3))) pe_int) pa_nil)) pe_int))
  (pss_one (ps_ret (pe_op op_mod (pe_callTy call_int1 (by rfl) T.int (by decide +kernel) (pa_cons (pe_op op_fdiv (pv 4) pe_int) pa_nil)) (pv 1))))))))), ?_⟩
    have g0 : atI (pl a b c) 0 = some (.int a) := rfl
    have g1 : atI (pl a b c) 1 = some (.int b) := rfl
    have g2 : atI (pl a b c) 2 = some (.int c) := rfl
    refine ⟨_, rfl, p, pl a b c, 0, _, rfl, rfl, SqL.of hp, g0, a, 0, rfl, rfl, _, rfl, ?_⟩
    refine ite2 (fun hpos => ?_) (fun hneg => ?_)
    · refine ⟨_, rfl, p, pl a b c, 0, _, rfl, rfl, SqL.of hp, g0, .inl ⟨a, rfl, _, rfl, a, m, rfl, rfl, m0, ?_⟩⟩
      refine ⟨_, rfl, p, pl a b c, 0, _, rfl, rfl, SqL.of hp, g0, _, rfl, a, m, rfl, rfl, wide_div m0 m1 (by decide) (by decide), _, rfl, p, pl a b c, 0, 0, rfl, rfl, hp, rfl, ?_⟩
      refine ⟨_, rfl, ?_⟩
      refine k (a % m) _ (Int.emod_nonneg _ (by omega)) (Int.emod_lt_of_pos _ m0) ⟨a / m, b, c, upd_same, Int.ediv_nonneg a0 (by omega), b0, b1, c0, by omega⟩
    · refine ⟨_, rfl, p, pl a b c, 2, _, rfl, rfl, SqL.of hp, g2, c, 1, rfl, rfl, ?_⟩
      refine ⟨_, rfl, _, rfl, p, pl a b c, 2, 2, rfl, rfl, hp, rfl, ?_⟩
      have g1' : atI ((pl a b c).set 2 (.int (c + 1))) 1 = some (.int b) := rfl
      refine ⟨_, rfl, p, _, 1, _, rfl, rfl, SqL.of upd_same, g1', _, rfl, 48611, c + 1, rfl, rfl, .inl (by decide), b, _, rfl, rfl, _, 3, rfl, rfl, ⟨by decide, by decide, by omega⟩, _, rfl, 17, c + 1, rfl, rfl, .inl (by decide), _, _, rfl, rfl, .inl ⟨_, rfl, _, _, rfl, rfl, (by show (0 : Int) < 2305843009213693921; decide), ?_⟩⟩
      have hX : 0 ≤ ((b + 48611 * (c + 1)) ^ Int.toNat 3 + 17 * (c + 1)) % 2305843009213693921 ∧ ((b + 48611 * (c + 1)) ^ Int.toNat 3 + 17 * (c + 1)) % 2305843009213693921 < 2305843009213693921 :=
        ⟨Int.emod_nonneg _ (by decide), Int.emod_lt_of_pos _ (by decide)⟩
      dsimp only
      generalize ((b + 48611 * (c + 1)) ^ Int.toNat 3 + 17 * (c + 1)) % 2305843009213693921 = X at hX ⊢
      obtain ⟨x0, x1⟩ := hX
      refine ⟨_, rfl, _, rfl, 104729, c + 1, rfl, rfl, .inl (by decide), X, _, rfl, rfl, _, 3, rfl, rfl, ⟨by decide, by decide, by omega⟩, .inl ⟨_, rfl, _, _, rfl, rfl, (by show (0 : Int) < 1000000000000000003; decide), ?_⟩⟩
      have hY : 0 ≤ (X + 104729 * (c + 1)) ^ Int.toNat 3 % 1000000000000000003 := Int.emod_nonneg _ (by decide)
      refine ⟨_, rfl, _, _, rfl, rfl, ⟨by decide, by decide⟩, .inl ⟨_, rfl, _, rfl, _, m, rfl, rfl, m0, ?_⟩⟩
      refine k _ _ (Int.emod_nonneg _ (by omega)) (Int.emod_lt_of_pos _ m0) ⟨a, b, c + 1, upd_same, a0, b0, b1, by omega, by omega⟩
theorem ok_pool {f : Addr} {fd : FuncData} (F : Fun K "_law_pool" "_law_pool" s_law_pool f fd) (T : Bn mg) : FnOk P w K mg base CX0 1 f fd ["script", "at"] (spPool K) := by
  refine F.ok sc_law_pool (fun vs H Q E h => ?_) (fun cdv A outer s H vs Q E hr h => ?_)
  · obtain ⟨a, ns, j, rfl, _⟩ := h
    rfl
  · obtain ⟨a, ns, j, rfl, hS, hj, k⟩ := h
    refine ⟨_, (Evl.pss_cut (ps_set (i := 2) sc_law_pool.nd rfl (Or.inl rfl) (pe_ifExp (pt_cmpR op_lt (pv 1) (pe_callB call_len_seq (by rfl) T.len PySem.boot_len (pa_cons (pv 0) pa_nil)) (nomark _)) (pe_ix ix_list (pv 0) (pv 1) (fun _ _ => rfl)) pe_int))
  (pss_cons (ps_set (i := 3) sc_law_pool.nd rfl (Or.inl rfl) (pe_callB call_abs (by rfl) T.abs PyProof.Rows.boot_abs (pa_cons (pv 2) pa_nil)))
  (pss_cons (ps_set (i := 4) sc_law_pool.nd rfl (Or.inl rfl) (pe_op op_mod (pe_callTy call_int1 (by rfl) T.int (by decide +kernel) (pa_cons (pe_op op_add (pe_op op_add (pe_op op_mul (pv 3) pe_int) (pe_op op_mul pe_int (pv 1))) (pe_callTy call_int1 (by rfl) T.int (by decide +kernel) (pa_cons (pe_cmpR op_lt (pv 2) pe_int (nomark _)) pa_nil))) pa_nil)) pe_int))
  (pss_one (ps_ret (pe_lst (pa_cons (pe_ifExp (pt_cmpR op_ge (pv 3) (pe_op op_pow pe_int pe_int) (nomark _)) (pv 3) pe_int) (pa_cons (pe_op op_add (pv 4) pe_int) (pa_cons pe_int pa_nil))))))))), ?_⟩
    have hj' : (j : Int) < 64 := by omega
    refine ⟨fun σ H' => H' = H ∧ ∃ c : Int, σ = [some (.ref a), some (.int j), some (.int c), none, none], ?_, ?_⟩
    · refine ⟨_, rfl, _, rfl, a, _, rfl, .inl hS, _, _, rfl, rfl, _, rfl, ?_⟩
      refine ite2 (fun hlt => ?_) (fun _ => ⟨rfl, 0, rfl⟩)
      have hlt := of_decide_eq_true hlt
      have hl : j < ns.length := by
        rw [List.length_map] at hlt
        exact Int.ofNat_lt.mp hlt
      have hz : (ns.map V.int)[j]? = some (V.int ns[j]) := by
        rw [List.getElem?_map, List.getElem?_eq_getElem hl]
        rfl
      exact ⟨_, rfl, _, rfl, a, _, _, _, rfl, rfl, hS, atI_nat hz, rfl, _, rfl⟩
    · rintro σ H' ⟨rfl, c, rfl⟩
      refine ⟨_, rfl, c, rfl, ?_⟩
      refine ⟨_, rfl, _, 6, rfl, rfl, .inr (by decide), _, rfl, 2, j, rfl, rfl, .inl (by decide), _, _, rfl, rfl, _, rfl, c, 0, rfl, rfl, .inr ⟨_, rfl, _, _, rfl, rfl, .inl ⟨_, rfl, _, _, rfl, rfl, (by show (0 : Int) < 2305843009213693951; decide), ?_⟩⟩⟩
      refine ⟨_, rfl, 10, 18, rfl, rfl, ⟨by decide, by decide, by decide⟩, _, _, rfl, rfl, _, rfl, ?_⟩
      have h0 : (0 : Int) ≤ if c < 0 then -c else c := by split <;> omega
      have fin : ∀ x y : Int, 0 ≤ x → ∀ p, H' p = none → Q (.ref p) (upd H' p (.lst [.int x, .int (y % 2305843009213693951 + 12345), .int 0])) := fun x y hx p hp => by
        have e1 := Int.emod_nonneg y (show (2305843009213693951 : Int) ≠ 0 by decide)
        have e2 := Int.emod_lt_of_pos y (show (0 : Int) < 2305843009213693951 by decide)
        exact k p _ hp ⟨x, _, 0, upd_same, hx, by omega, by omega, by omega, by omega⟩
      refine ite2 (fun _ => ?_) (fun _ => ?_)
      · exact ⟨_, rfl, _, rfl, _, _, rfl, rfl, (by show 3 ≤ sizeLine; decide), fun p hp => fin _ _ h0 p hp⟩
      · exact ⟨_, rfl, _, _, rfl, rfl, (by show 3 ≤ sizeLine; decide), fun p hp => fin 0 _ (by decide) p hp⟩
end
end IC
namespace IC
open PySem L2 TL
section
variable {P : Program} {w : World} {K : PySem.W.Frag} {mg : Str → Option Value} {base : Heap}
theorem ok_word {f : Addr} {fd : FuncData} (F : Fun K "_law_word" "_law_word" s_law_word f fd) (T : Bn mg) (D_law_draw : Df P w K mg base 1 "_law_draw" ["pool", "many"] spDraw) : FnOk P w K mg base CX0 2 f fd ["pool"] spWord := by
  refine F.ok sc_law_word (fun vs H Q E h => ?_) (fun cdv A outer s H vs Q E hr h => ?_)
  · obtain ⟨p, n, rfl, _⟩ := h
    rfl
  · obtain ⟨p, n, rfl, hp, hn, k⟩ := h
    refine ⟨_, (pss_cons (ps_set (i := 1) sc_law_word.nd rfl (Or.inr rfl) pe_str)
  (pss_one (ps_ret (pe_join pe_str (pe_lc (own := [("k", 2)]) (g := gName 2) (tt := tYes) rfl sc_law_word.nd (pi_range1 rfl T.range (pa_cons (pe_op op_add pe_int (pe_df D_law_draw hr (by decide) rfl (pa_cons (pv 0) (pa_cons pe_int pa_nil)))) pa_nil)) (blkOk_by (N := ["pool", "letters", "k"]) (sc := defScope s_law_word) (by decide +kernel)) (fun _ _ _ _ _ => pg_name (i := 2) sc_law_word.nd rfl (Or.inl rfl)) (fun _ _ _ _ _ => pts_nil) (fun _ _ _ _ _ => (pe_ix ix_str (pv 1) (pe_df D_law_draw hr (by decide) rfl (pa_cons (pv 0) (pa_cons pe_int pa_nil))) (fun _ _ => rfl)))))))), ?_⟩
    refine ⟨⟨_, rfl⟩, _, rfl, p, 8, n, rfl, hp, by omega, by decide, by decide, fun d o d0 d8 hp1 => ⟨_, _, rfl, rfl, _, rfl, by omega, by omega, fun D hD => ?_⟩⟩
    obtain ⟨hpD, hDn⟩ := none_of hD
    refine lc_range (lo := 0) (n := (1 + d).toNat) (fun i H' => ∃ cs : List Nat, cs.length = i ∧ (∀ c ∈ cs, Lt c) ∧ H' D = some (.lst ((cs.map sgn).map V.str)) ∧ PoolAt H' p (n + 1 + i) ∧ Kp [p] H H')
      ⟨[], rfl, by simp, upd_same, (hp1.mv fun u e => by rw [upd_ne hpD]; exact e).up (by omega), (Kp.at_ (by simp)).trans (Kp.new hD)⟩ ?_ ?_
    · rintro i H' hi ⟨cs, hl, hc, hcD, hp2, kp⟩
      refine ⟨rfl, ?_⟩
      refine ⟨_, rfl, _, rfl, p, 26, n + 1 + i, rfl, hp2, by omega, by decide, by decide, fun e o2 e0 e1 hp3 => ?_⟩
      obtain ⟨c, hat, hL⟩ := abc_at e e0 e1
      refine ⟨_, e, c, rfl, rfl, by decide +kernel, hat, ?_⟩
      refine ⟨_, (by rw [upd_ne hpD.symm]; exact hcD), small1000 (by rw [List.length_map, List.length_map]; omega), cs ++ [c], by simp [hl], ?_, ?_, ?_, (kp.mutAt (by simp)).mut hDn⟩
      · intro x hx
        rcases List.mem_append.mp hx with hx | hx
        · exact hc x hx
        · rw [List.mem_singleton.mp hx]; exact hL
      · rw [upd_same, List.map_append, List.map_append]
        rfl
      · exact (hp3.mv fun u q => by rw [upd_ne hpD]; exact q).up (by omega)
    · rintro H' ⟨cs, hl, hc, hcD, hp2, kp⟩
      refine ⟨_, D, cs.map sgn, rfl, rfl, .inl (SqL.of hcD), ?_, ?_⟩
      · have e : (List.map (fun z : Str => z.length) (cs.map sgn)).sum = cs.length := by
          rw [List.map_map]
          clear hl hc hcD hp2 kp
          induction cs with
          | nil => rfl
          | cons c r ih => rw [List.map_cons, List.sum_cons, ih, List.length_cons]; show 1 + r.length = r.length + 1; omega
        rw [e, List.length_map, hl]
        show (1 + d).toNat + (1 + d).toNat * 0 ≤ 16777216
        omega
      · have et := tl_joined cs
        refine k _ H' ⟨?_, ?_, ?_⟩ (hp2.up (by omega)) kp
        · rw [et, hl]; omega
        · rw [et, hl]; omega
        · rw [et]; exact hc
end
end IC
namespace IC
open PySem L2 TL
section
variable {P : Program} {w : World} {K : PySem.W.Frag} {mg : Str → Option Value} {base : Heap}
theorem ok_BadChange {f C : Addr} {fd : FuncData} (F : Fun K "__init__" "BadChange.__init__" s_BadChange___init__ f fd) (O : OexC K C) (no : ∀ x ∈ flds, PySem.W.findIn K (.ref C) x = some none) : FnOk P w K mg base CX0 1 f fd ["self", "index"] (spErr C (fun v => [("index", v)])) := by
  refine F.ok sc_BadChange___init__ (fun vs H Q E h => ?_) (fun cdv A outer s H vs Q E hr h => ?_)
  · obtain ⟨a, v, rfl, _⟩ := h
    rfl
  · obtain ⟨a, v, rfl, ea, k⟩ := h
    refine ⟨_, (pss_one (ps_ost (pv 0) (pv 1))), ?_⟩
    refine ⟨_, rfl, _, rfl, a, C, rfl, O, no _ (by decide), .inl ⟨ea, fun d nd ne => ?_⟩⟩
    exact k d _ nd ne upd_same (by rw [upd_ne ne, upd_same]) (fun b h1 h2 => by rw [upd_ne h1, upd_ne h2])
theorem ok_BadLibrary {f C : Addr} {fd : FuncData} (F : Fun K "__init__" "BadLibrary.__init__" s_BadLibrary___init__ f fd) (O : OexC K C) (no : ∀ x ∈ flds, PySem.W.findIn K (.ref C) x = some none) : FnOk P w K mg base CX0 1 f fd ["self", "line"] (spErr C (fun v => [("line", v)])) := by
  refine F.ok sc_BadLibrary___init__ (fun vs H Q E h => ?_) (fun cdv A outer s H vs Q E hr h => ?_)
  · obtain ⟨a, v, rfl, _⟩ := h
    rfl
  · obtain ⟨a, v, rfl, ea, k⟩ := h
    refine ⟨_, (pss_one (ps_ost (pv 0) (pv 1))), ?_⟩
    refine ⟨_, rfl, _, rfl, a, C, rfl, O, no _ (by decide), .inl ⟨ea, fun d nd ne => ?_⟩⟩
    exact k d _ nd ne upd_same (by rw [upd_ne ne, upd_same]) (fun b h1 h2 => by rw [upd_ne h1, upd_ne h2])
theorem ok_BadMode {f C : Addr} {fd : FuncData} (F : Fun K "__init__" "BadMode.__init__" s_BadMode___init__ f fd) (O : OexC K C) (no : ∀ x ∈ flds, PySem.W.findIn K (.ref C) x = some none) : FnOk P w K mg base CX0 1 f fd ["self", "mode"] (spErr C (fun v => [("mode", v)])) := by
  refine F.ok sc_BadMode___init__ (fun vs H Q E h => ?_) (fun cdv A outer s H vs Q E hr h => ?_)
  · obtain ⟨a, v, rfl, _⟩ := h
    rfl
  · obtain ⟨a, v, rfl, ea, k⟩ := h
    refine ⟨_, (pss_one (ps_ost (pv 0) (pv 1))), ?_⟩
    refine ⟨_, rfl, _, rfl, a, C, rfl, O, no _ (by decide), .inl ⟨ea, fun d nd ne => ?_⟩⟩
    exact k d _ nd ne upd_same (by rw [upd_ne ne, upd_same]) (fun b h1 h2 => by rw [upd_ne h1, upd_ne h2])
theorem ok_BadMove {f C : Addr} {fd : FuncData} (F : Fun K "__init__" "BadMove.__init__" s_BadMove___init__ f fd) (O : OexC K C) (no : ∀ x ∈ flds, PySem.W.findIn K (.ref C) x = some none) : FnOk P w K mg base CX0 1 f fd ["self", "thing"] (spErr C (fun v => [("thing", v)])) := by
  refine F.ok sc_BadMove___init__ (fun vs H Q E h => ?_) (fun cdv A outer s H vs Q E hr h => ?_)
  · obtain ⟨a, v, rfl, _⟩ := h
    rfl
  · obtain ⟨a, v, rfl, ea, k⟩ := h
    refine ⟨_, (pss_one (ps_ost (pv 0) (pv 1))), ?_⟩
    refine ⟨_, rfl, _, rfl, a, C, rfl, O, no _ (by decide), .inl ⟨ea, fun d nd ne => ?_⟩⟩
    exact k d _ nd ne upd_same (by rw [upd_ne ne, upd_same]) (fun b h1 h2 => by rw [upd_ne h1, upd_ne h2])
theorem ok_BadRecords {f C : Addr} {fd : FuncData} (F : Fun K "__init__" "BadRecords.__init__" s_BadRecords___init__ f fd) (O : OexC K C) (no : ∀ x ∈ flds, PySem.W.findIn K (.ref C) x = some none) : FnOk P w K mg base CX0 1 f fd ["self", "record"] (spErr C (fun v => [("record", v)])) := by
  refine F.ok sc_BadRecords___init__ (fun vs H Q E h => ?_) (fun cdv A outer s H vs Q E hr h => ?_)
  · obtain ⟨a, v, rfl, _⟩ := h
    rfl
  · obtain ⟨a, v, rfl, ea, k⟩ := h
    refine ⟨_, (pss_one (ps_ost (pv 0) (pv 1))), ?_⟩
    refine ⟨_, rfl, _, rfl, a, C, rfl, O, no _ (by decide), .inl ⟨ea, fun d nd ne => ?_⟩⟩
    exact k d _ nd ne upd_same (by rw [upd_ne ne, upd_same]) (fun b h1 h2 => by rw [upd_ne h1, upd_ne h2])
theorem ok_BadWord {f C : Addr} {fd : FuncData} (F : Fun K "__init__" "BadWord.__init__" s_BadWord___init__ f fd) (O : OexC K C) (no : ∀ x ∈ flds, PySem.W.findIn K (.ref C) x = some none) : FnOk P w K mg base CX0 1 f fd ["self", "word"] (spErr C (fun v => [("word", v)])) := by
  refine F.ok sc_BadWord___init__ (fun vs H Q E h => ?_) (fun cdv A outer s H vs Q E hr h => ?_)
  · obtain ⟨a, v, rfl, _⟩ := h
    rfl
  · obtain ⟨a, v, rfl, ea, k⟩ := h
    refine ⟨_, (pss_one (ps_ost (pv 0) (pv 1))), ?_⟩
    refine ⟨_, rfl, _, rfl, a, C, rfl, O, no _ (by decide), .inl ⟨ea, fun d nd ne => ?_⟩⟩
    exact k d _ nd ne upd_same (by rw [upd_ne ne, upd_same]) (fun b h1 h2 => by rw [upd_ne h1, upd_ne h2])
theorem ok_Clash {f C : Addr} {fd : FuncData} (F : Fun K "__init__" "Clash.__init__" s_Clash___init__ f fd) (O : OexC K C) (no : ∀ x ∈ flds, PySem.W.findIn K (.ref C) x = some none) : FnOk P w K mg base CX0 1 f fd ["self", "name"] (spErr C (fun v => [("name", v)])) := by
  refine F.ok sc_Clash___init__ (fun vs H Q E h => ?_) (fun cdv A outer s H vs Q E hr h => ?_)
  · obtain ⟨a, v, rfl, _⟩ := h
    rfl
  · obtain ⟨a, v, rfl, ea, k⟩ := h
    refine ⟨_, (pss_one (ps_ost (pv 0) (pv 1))), ?_⟩
    refine ⟨_, rfl, _, rfl, a, C, rfl, O, no _ (by decide), .inl ⟨ea, fun d nd ne => ?_⟩⟩
    exact k d _ nd ne upd_same (by rw [upd_ne ne, upd_same]) (fun b h1 h2 => by rw [upd_ne h1, upd_ne h2])
theorem ok_Doomed {f C : Addr} {fd : FuncData} (F : Fun K "__init__" "Doomed.__init__" s_Doomed___init__ f fd) (O : OexC K C) (no : ∀ x ∈ flds, PySem.W.findIn K (.ref C) x = some none) : FnOk P w K mg base CX0 1 f fd ["self", "first"] (spErr C (fun v => [("word", .str "doomed"), ("first", v)])) := by
  refine F.ok sc_Doomed___init__ (fun vs H Q E h => ?_) (fun cdv A outer s H vs Q E hr h => ?_)
  · obtain ⟨a, v, rfl, _⟩ := h
    rfl
  · obtain ⟨a, v, rfl, ea, k⟩ := h
    refine ⟨_, (pss_cons (ps_ost (pv 0) (pv 1))
  (pss_one (ps_ost (pv 0) pe_str))), ?_⟩
    refine ⟨_, rfl, _, rfl, a, C, rfl, O, no _ (by decide), .inl ⟨ea, fun d nd ne => ?_⟩⟩
    refine ⟨_, rfl, a, C, rfl, O, no _ (by decide), .inr ⟨d, _, upd_same, (by rw [upd_ne ne, upd_same]), (by show 1 ≤ 900; decide), ?_⟩⟩
    exact k d _ nd ne (by rw [upd_ne ne.symm, upd_same]) upd_same (fun b h1 h2 => by rw [upd_ne h2, upd_ne h1, upd_ne h2])
theorem ok_Endless {f C : Addr} {fd : FuncData} (F : Fun K "__init__" "Endless.__init__" s_Endless___init__ f fd) (O : OexC K C) (no : ∀ x ∈ flds, PySem.W.findIn K (.ref C) x = some none) : FnOk P w K mg base CX0 1 f fd ["self", "name"] (spErr C (fun v => [("name", v)])) := by
  refine F.ok sc_Endless___init__ (fun vs H Q E h => ?_) (fun cdv A outer s H vs Q E hr h => ?_)
  · obtain ⟨a, v, rfl, _⟩ := h
    rfl
  · obtain ⟨a, v, rfl, ea, k⟩ := h
    refine ⟨_, (pss_one (ps_ost (pv 0) (pv 1))), ?_⟩
    refine ⟨_, rfl, _, rfl, a, C, rfl, O, no _ (by decide), .inl ⟨ea, fun d nd ne => ?_⟩⟩
    exact k d _ nd ne upd_same (by rw [upd_ne ne, upd_same]) (fun b h1 h2 => by rw [upd_ne h1, upd_ne h2])
theorem ok_Failed {f C : Addr} {fd : FuncData} (F : Fun K "__init__" "Failed.__init__" s_Failed___init__ f fd) (O : OexC K C) (no : ∀ x ∈ flds, PySem.W.findIn K (.ref C) x = some none) : FnOk P w K mg base CX0 1 f fd ["self", "word"] (spErr C (fun v => [("word", v)])) := by
  refine F.ok sc_Failed___init__ (fun vs H Q E h => ?_) (fun cdv A outer s H vs Q E hr h => ?_)
  · obtain ⟨a, v, rfl, _⟩ := h
    rfl
  · obtain ⟨a, v, rfl, ea, k⟩ := h
    refine ⟨_, (pss_one (ps_ost (pv 0) (pv 1))), ?_⟩
    refine ⟨_, rfl, _, rfl, a, C, rfl, O, no _ (by decide), .inl ⟨ea, fun d nd ne => ?_⟩⟩
    exact k d _ nd ne upd_same (by rw [upd_ne ne, upd_same]) (fun b h1 h2 => by rw [upd_ne h1, upd_ne h2])
theorem ok_Missing {f C : Addr} {fd : FuncData} (F : Fun K "__init__" "Missing.__init__" s_Missing___init__ f fd) (O : OexC K C) (no : ∀ x ∈ flds, PySem.W.findIn K (.ref C) x = some none) : FnOk P w K mg base CX0 1 f fd ["self", "mode"] (spErr C (fun v => [("word", .str "missing"), ("mode", v)])) := by
  refine F.ok sc_Missing___init__ (fun vs H Q E h => ?_) (fun cdv A outer s H vs Q E hr h => ?_)
  · obtain ⟨a, v, rfl, _⟩ := h
    rfl
  · obtain ⟨a, v, rfl, ea, k⟩ := h
    refine ⟨_, (pss_cons (ps_ost (pv 0) (pv 1))
  (pss_one (ps_ost (pv 0) pe_str))), ?_⟩
    refine ⟨_, rfl, _, rfl, a, C, rfl, O, no _ (by decide), .inl ⟨ea, fun d nd ne => ?_⟩⟩
    refine ⟨_, rfl, a, C, rfl, O, no _ (by decide), .inr ⟨d, _, upd_same, (by rw [upd_ne ne, upd_same]), (by show 1 ≤ 900; decide), ?_⟩⟩
    exact k d _ nd ne (by rw [upd_ne ne.symm, upd_same]) upd_same (fun b h1 h2 => by rw [upd_ne h2, upd_ne h1, upd_ne h2])
theorem ok_NoCall {f C : Addr} {fd : FuncData} (F : Fun K "__init__" "NoCall.__init__" s_NoCall___init__ f fd) (O : OexC K C) (no : ∀ x ∈ flds, PySem.W.findIn K (.ref C) x = some none) : FnOk P w K mg base CX0 1 f fd ["self", "number"] (spErr C (fun v => [("number", v)])) := by
  refine F.ok sc_NoCall___init__ (fun vs H Q E h => ?_) (fun cdv A outer s H vs Q E hr h => ?_)
  · obtain ⟨a, v, rfl, _⟩ := h
    rfl
  · obtain ⟨a, v, rfl, ea, k⟩ := h
    refine ⟨_, (pss_one (ps_ost (pv 0) (pv 1))), ?_⟩
    refine ⟨_, rfl, _, rfl, a, C, rfl, O, no _ (by decide), .inl ⟨ea, fun d nd ne => ?_⟩⟩
    exact k d _ nd ne upd_same (by rw [upd_ne ne, upd_same]) (fun b h1 h2 => by rw [upd_ne h1, upd_ne h2])
theorem ok_NoFace {f C : Addr} {fd : FuncData} (F : Fun K "__init__" "NoFace.__init__" s_NoFace___init__ f fd) (O : OexC K C) (no : ∀ x ∈ flds, PySem.W.findIn K (.ref C) x = some none) : FnOk P w K mg base CX0 1 f fd ["self", "face"] (spErr C (fun v => [("face", v)])) := by
  refine F.ok sc_NoFace___init__ (fun vs H Q E h => ?_) (fun cdv A outer s H vs Q E hr h => ?_)
  · obtain ⟨a, v, rfl, _⟩ := h
    rfl
  · obtain ⟨a, v, rfl, ea, k⟩ := h
    refine ⟨_, (pss_one (ps_ost (pv 0) (pv 1))), ?_⟩
    refine ⟨_, rfl, _, rfl, a, C, rfl, O, no _ (by decide), .inl ⟨ea, fun d nd ne => ?_⟩⟩
    exact k d _ nd ne upd_same (by rw [upd_ne ne, upd_same]) (fun b h1 h2 => by rw [upd_ne h1, upd_ne h2])
theorem ok_NoFate {f C : Addr} {fd : FuncData} (F : Fun K "__init__" "NoFate.__init__" s_NoFate___init__ f fd) (O : OexC K C) (no : ∀ x ∈ flds, PySem.W.findIn K (.ref C) x = some none) : FnOk P w K mg base CX0 1 f fd ["self", "kept"] (spErr C (fun v => [("kept", v)])) := by
  refine F.ok sc_NoFate___init__ (fun vs H Q E h => ?_) (fun cdv A outer s H vs Q E hr h => ?_)
  · obtain ⟨a, v, rfl, _⟩ := h
    rfl
  · obtain ⟨a, v, rfl, ea, k⟩ := h
    refine ⟨_, (pss_one (ps_ost (pv 0) (pv 1))), ?_⟩
    refine ⟨_, rfl, _, rfl, a, C, rfl, O, no _ (by decide), .inl ⟨ea, fun d nd ne => ?_⟩⟩
    exact k d _ nd ne upd_same (by rw [upd_ne ne, upd_same]) (fun b h1 h2 => by rw [upd_ne h1, upd_ne h2])
theorem ok_NoFunction {f C : Addr} {fd : FuncData} (F : Fun K "__init__" "NoFunction.__init__" s_NoFunction___init__ f fd) (O : OexC K C) (no : ∀ x ∈ flds, PySem.W.findIn K (.ref C) x = some none) : FnOk P w K mg base CX0 1 f fd ["self", "name"] (spErr C (fun v => [("name", v)])) := by
  refine F.ok sc_NoFunction___init__ (fun vs H Q E h => ?_) (fun cdv A outer s H vs Q E hr h => ?_)
  · obtain ⟨a, v, rfl, _⟩ := h
    rfl
  · obtain ⟨a, v, rfl, ea, k⟩ := h
    refine ⟨_, (pss_one (ps_ost (pv 0) (pv 1))), ?_⟩
    refine ⟨_, rfl, _, rfl, a, C, rfl, O, no _ (by decide), .inl ⟨ea, fun d nd ne => ?_⟩⟩
    exact k d _ nd ne upd_same (by rw [upd_ne ne, upd_same]) (fun b h1 h2 => by rw [upd_ne h1, upd_ne h2])
theorem ok_NoRecord {f C : Addr} {fd : FuncData} (F : Fun K "__init__" "NoRecord.__init__" s_NoRecord___init__ f fd) (O : OexC K C) (no : ∀ x ∈ flds, PySem.W.findIn K (.ref C) x = some none) : FnOk P w K mg base CX0 1 f fd ["self", "record"] (spErr C (fun v => [("record", v)])) := by
  refine F.ok sc_NoRecord___init__ (fun vs H Q E h => ?_) (fun cdv A outer s H vs Q E hr h => ?_)
  · obtain ⟨a, v, rfl, _⟩ := h
    rfl
  · obtain ⟨a, v, rfl, ea, k⟩ := h
    refine ⟨_, (pss_one (ps_ost (pv 0) (pv 1))), ?_⟩
    refine ⟨_, rfl, _, rfl, a, C, rfl, O, no _ (by decide), .inl ⟨ea, fun d nd ne => ?_⟩⟩
    exact k d _ nd ne upd_same (by rw [upd_ne ne, upd_same]) (fun b h1 h2 => by rw [upd_ne h1, upd_ne h2])
theorem ok_NoRow {f C : Addr} {fd : FuncData} (F : Fun K "__init__" "NoRow.__init__" s_NoRow___init__ f fd) (O : OexC K C) (no : ∀ x ∈ flds, PySem.W.findIn K (.ref C) x = some none) : FnOk P w K mg base CX0 1 f fd ["self", "name", "case"] (spErr2 C (fun v u => [("case", u), ("name", v)])) := by
  refine F.ok sc_NoRow___init__ (fun vs H Q E h => ?_) (fun cdv A outer s H vs Q E hr h => ?_)
  · obtain ⟨a, v, u, rfl, _⟩ := h
    rfl
  · obtain ⟨a, v, u, rfl, ea, k⟩ := h
    refine ⟨_, (pss_cons (ps_ost (pv 0) (pv 1))
  (pss_one (ps_ost (pv 0) (pv 2)))), ?_⟩
    refine ⟨_, rfl, _, rfl, a, C, rfl, O, no _ (by decide), .inl ⟨ea, fun d nd ne => ?_⟩⟩
    refine ⟨_, rfl, _, rfl, a, C, rfl, O, no _ (by decide), .inr ⟨d, _, upd_same, (by rw [upd_ne ne, upd_same]), (by show 1 ≤ 900; decide), ?_⟩⟩
    exact k d _ nd ne (by rw [upd_ne ne.symm, upd_same]) upd_same (fun b h1 h2 => by rw [upd_ne h2, upd_ne h1, upd_ne h2])
theorem ok_NotNow {f C : Addr} {fd : FuncData} (F : Fun K "__init__" "NotNow.__init__" s_NotNow___init__ f fd) (O : OexC K C) (no : ∀ x ∈ flds, PySem.W.findIn K (.ref C) x = some none) : FnOk P w K mg base CX0 1 f fd ["self", "thing"] (spErr C (fun v => [("thing", v)])) := by
  refine F.ok sc_NotNow___init__ (fun vs H Q E h => ?_) (fun cdv A outer s H vs Q E hr h => ?_)
  · obtain ⟨a, v, rfl, _⟩ := h
    rfl
  · obtain ⟨a, v, rfl, ea, k⟩ := h
    refine ⟨_, (pss_one (ps_ost (pv 0) (pv 1))), ?_⟩
    refine ⟨_, rfl, _, rfl, a, C, rfl, O, no _ (by decide), .inl ⟨ea, fun d nd ne => ?_⟩⟩
    exact k d _ nd ne upd_same (by rw [upd_ne ne, upd_same]) (fun b h1 h2 => by rw [upd_ne h1, upd_ne h2])
theorem ok_Present {f C : Addr} {fd : FuncData} (F : Fun K "__init__" "Present.__init__" s_Present___init__ f fd) (O : OexC K C) (no : ∀ x ∈ flds, PySem.W.findIn K (.ref C) x = some none) : FnOk P w K mg base CX0 1 f fd ["self", "mode"] (spErr C (fun v => [("word", .str "present"), ("mode", v)])) := by
  refine F.ok sc_Present___init__ (fun vs H Q E h => ?_) (fun cdv A outer s H vs Q E hr h => ?_)
  · obtain ⟨a, v, rfl, _⟩ := h
    rfl
  · obtain ⟨a, v, rfl, ea, k⟩ := h
    refine ⟨_, (pss_cons (ps_ost (pv 0) (pv 1))
  (pss_one (ps_ost (pv 0) pe_str))), ?_⟩
    refine ⟨_, rfl, _, rfl, a, C, rfl, O, no _ (by decide), .inl ⟨ea, fun d nd ne => ?_⟩⟩
    refine ⟨_, rfl, a, C, rfl, O, no _ (by decide), .inr ⟨d, _, upd_same, (by rw [upd_ne ne, upd_same]), (by show 1 ≤ 900; decide), ?_⟩⟩
    exact k d _ nd ne (by rw [upd_ne ne.symm, upd_same]) upd_same (fun b h1 h2 => by rw [upd_ne h2, upd_ne h1, upd_ne h2])
theorem ok_Refused {f C : Addr} {fd : FuncData} (F : Fun K "__init__" "Refused.__init__" s_Refused___init__ f fd) (O : OexC K C) (no : ∀ x ∈ flds, PySem.W.findIn K (.ref C) x = some none) : FnOk P w K mg base CX0 1 f fd ["self"] (spErr0 C [("word", .str "refused")]) := by
  refine F.ok sc_Refused___init__ (fun vs H Q E h => ?_) (fun cdv A outer s H vs Q E hr h => ?_)
  · obtain ⟨a, rfl, _⟩ := h
    rfl
  · obtain ⟨a, rfl, ea, k⟩ := h
    refine ⟨_, (pss_one (ps_ost (pv 0) pe_str)), ?_⟩
    refine ⟨_, rfl, a, C, rfl, O, no _ (by decide), .inl ⟨ea, fun d nd ne => ?_⟩⟩
    exact k d _ nd ne upd_same (by rw [upd_ne ne, upd_same]) (fun b h1 h2 => by rw [upd_ne h1, upd_ne h2])
theorem ok_TooMany {f C : Addr} {fd : FuncData} (F : Fun K "__init__" "TooMany.__init__" s_TooMany___init__ f fd) (O : OexC K C) (no : ∀ x ∈ flds, PySem.W.findIn K (.ref C) x = some none) : FnOk P w K mg base CX0 1 f fd ["self", "what"] (spErr C (fun v => [("what", v)])) := by
  refine F.ok sc_TooMany___init__ (fun vs H Q E h => ?_) (fun cdv A outer s H vs Q E hr h => ?_)
  · obtain ⟨a, v, rfl, _⟩ := h
    rfl
  · obtain ⟨a, v, rfl, ea, k⟩ := h
    refine ⟨_, (pss_one (ps_ost (pv 0) (pv 1))), ?_⟩
    refine ⟨_, rfl, _, rfl, a, C, rfl, O, no _ (by decide), .inl ⟨ea, fun d nd ne => ?_⟩⟩
    exact k d _ nd ne upd_same (by rw [upd_ne ne, upd_same]) (fun b h1 h2 => by rw [upd_ne h1, upd_ne h2])
theorem ok_Unknown {f C : Addr} {fd : FuncData} (F : Fun K "__init__" "Unknown.__init__" s_Unknown___init__ f fd) (O : OexC K C) (no : ∀ x ∈ flds, PySem.W.findIn K (.ref C) x = some none) : FnOk P w K mg base CX0 1 f fd ["self", "name"] (spErr C (fun v => [("name", v)])) := by
  refine F.ok sc_Unknown___init__ (fun vs H Q E h => ?_) (fun cdv A outer s H vs Q E hr h => ?_)
  · obtain ⟨a, v, rfl, _⟩ := h
    rfl
  · obtain ⟨a, v, rfl, ea, k⟩ := h
    refine ⟨_, (pss_one (ps_ost (pv 0) (pv 1))), ?_⟩
    refine ⟨_, rfl, _, rfl, a, C, rfl, O, no _ (by decide), .inl ⟨ea, fun d nd ne => ?_⟩⟩
    exact k d _ nd ne upd_same (by rw [upd_ne ne, upd_same]) (fun b h1 h2 => by rw [upd_ne h1, upd_ne h2])
theorem ok_Unlike {f C : Addr} {fd : FuncData} (F : Fun K "__init__" "Unlike.__init__" s_Unlike___init__ f fd) (O : OexC K C) (no : ∀ x ∈ flds, PySem.W.findIn K (.ref C) x = some none) : FnOk P w K mg base CX0 1 f fd ["self", "name"] (spErr C (fun v => [("name", v)])) := by
  refine F.ok sc_Unlike___init__ (fun vs H Q E h => ?_) (fun cdv A outer s H vs Q E hr h => ?_)
  · obtain ⟨a, v, rfl, _⟩ := h
    rfl
  · obtain ⟨a, v, rfl, ea, k⟩ := h
    refine ⟨_, (pss_one (ps_ost (pv 0) (pv 1))), ?_⟩
    refine ⟨_, rfl, _, rfl, a, C, rfl, O, no _ (by decide), .inl ⟨ea, fun d nd ne => ?_⟩⟩
    exact k d _ nd ne upd_same (by rw [upd_ne ne, upd_same]) (fun b h1 h2 => by rw [upd_ne h1, upd_ne h2])
theorem ok_Waits {f C : Addr} {fd : FuncData} (F : Fun K "__init__" "Waits.__init__" s_Waits___init__ f fd) (O : OexC K C) (no : ∀ x ∈ flds, PySem.W.findIn K (.ref C) x = some none) : FnOk P w K mg base CX0 1 f fd ["self", "record"] (spErr C (fun v => [("word", .str "waits"), ("record", v)])) := by
  refine F.ok sc_Waits___init__ (fun vs H Q E h => ?_) (fun cdv A outer s H vs Q E hr h => ?_)
  · obtain ⟨a, v, rfl, _⟩ := h
    rfl
  · obtain ⟨a, v, rfl, ea, k⟩ := h
    refine ⟨_, (pss_cons (ps_ost (pv 0) (pv 1))
  (pss_one (ps_ost (pv 0) pe_str))), ?_⟩
    refine ⟨_, rfl, _, rfl, a, C, rfl, O, no _ (by decide), .inl ⟨ea, fun d nd ne => ?_⟩⟩
    refine ⟨_, rfl, a, C, rfl, O, no _ (by decide), .inr ⟨d, _, upd_same, (by rw [upd_ne ne, upd_same]), (by show 1 ≤ 900; decide), ?_⟩⟩
    exact k d _ nd ne (by rw [upd_ne ne.symm, upd_same]) upd_same (fun b h1 h2 => by rw [upd_ne h2, upd_ne h1, upd_ne h2])
end
end IC
namespace IC
open PySem L2 TL
/-- the fields of the error of the sort k, made of v (and u) -/
def fsK : Nat → V → V → List (Str × V)
  | 0, v, _ => [("index", v)]
  | 1, v, _ => [("line", v)]
  | 2, v, _ => [("mode", v)]
  | 3, v, _ => [("thing", v)]
  | 4, v, _ => [("record", v)]
  | 5, v, _ => [("word", v)]
  | 6, v, _ => [("name", v)]
  | 7, v, _ => [("word", .str "doomed"), ("first", v)]
  | 8, v, _ => [("name", v)]
  | 9, v, _ => [("word", v)]
  | 10, v, _ => [("word", .str "missing"), ("mode", v)]
  | 11, _, _ => []
  | 12, v, _ => [("number", v)]
  | 13, v, _ => [("face", v)]
  | 14, v, _ => [("kept", v)]
  | 15, v, _ => [("name", v)]
  | 16, v, _ => [("record", v)]
  | 17, v, u => [("case", u), ("name", v)]
  | 18, v, _ => [("thing", v)]
  | 19, v, _ => [("word", .str "present"), ("mode", v)]
  | 20, _, _ => [("word", .str "refused")]
  | 21, v, _ => [("what", v)]
  | 22, v, _ => [("name", v)]
  | 23, v, _ => [("name", v)]
  | 24, v, _ => [("word", .str "waits"), ("record", v)]
  | _, _, _ => []
structure E88 (P : Program) (w : World) (K : PySem.W.Frag) (mg : Str → Option Value) (base : Heap) (Cl : Nat → Addr) (CI : Addr) : Prop where
  g0 : mg "BadChange" = some (.ref (Cl 0))
  e0 : EDf P w K mg base 1 "BadChange" (Cl 0) "index" (fun v => [("index", v)])
  g1 : mg "BadLibrary" = some (.ref (Cl 1))
  e1 : EDf P w K mg base 1 "BadLibrary" (Cl 1) "line" (fun v => [("line", v)])
  g2 : mg "BadMode" = some (.ref (Cl 2))
  e2 : EDf P w K mg base 1 "BadMode" (Cl 2) "mode" (fun v => [("mode", v)])
  g3 : mg "BadMove" = some (.ref (Cl 3))
  e3 : EDf P w K mg base 1 "BadMove" (Cl 3) "thing" (fun v => [("thing", v)])
  g4 : mg "BadRecords" = some (.ref (Cl 4))
  e4 : EDf P w K mg base 1 "BadRecords" (Cl 4) "record" (fun v => [("record", v)])
  g5 : mg "BadWord" = some (.ref (Cl 5))
  e5 : EDf P w K mg base 1 "BadWord" (Cl 5) "word" (fun v => [("word", v)])
  g6 : mg "Clash" = some (.ref (Cl 6))
  e6 : EDf P w K mg base 1 "Clash" (Cl 6) "name" (fun v => [("name", v)])
  g7 : mg "Doomed" = some (.ref (Cl 7))
  e7 : EDf P w K mg base 1 "Doomed" (Cl 7) "first" (fun v => [("word", .str "doomed"), ("first", v)])
  g8 : mg "Endless" = some (.ref (Cl 8))
  e8 : EDf P w K mg base 1 "Endless" (Cl 8) "name" (fun v => [("name", v)])
  g9 : mg "Failed" = some (.ref (Cl 9))
  e9 : EDf P w K mg base 1 "Failed" (Cl 9) "word" (fun v => [("word", v)])
  g10 : mg "Missing" = some (.ref (Cl 10))
  e10 : EDf P w K mg base 1 "Missing" (Cl 10) "mode" (fun v => [("word", .str "missing"), ("mode", v)])
  g11 : mg "NoBlock" = some (.ref (Cl 11))
  e11 : PySem.W.excIn K (Cl 11) [.type "ValueError", .type "Exception", .type "BaseException", .type "object"] "ValueError.__new__" = true ∧ PySem.W.keepIn K (.ref (Cl 11)) = true
  g12 : mg "NoCall" = some (.ref (Cl 12))
  e12 : EDf P w K mg base 1 "NoCall" (Cl 12) "number" (fun v => [("number", v)])
  g13 : mg "NoFace" = some (.ref (Cl 13))
  e13 : EDf P w K mg base 1 "NoFace" (Cl 13) "face" (fun v => [("face", v)])
  g14 : mg "NoFate" = some (.ref (Cl 14))
  e14 : EDf P w K mg base 1 "NoFate" (Cl 14) "kept" (fun v => [("kept", v)])
  g15 : mg "NoFunction" = some (.ref (Cl 15))
  e15 : EDf P w K mg base 1 "NoFunction" (Cl 15) "name" (fun v => [("name", v)])
  g16 : mg "NoRecord" = some (.ref (Cl 16))
  e16 : EDf P w K mg base 1 "NoRecord" (Cl 16) "record" (fun v => [("record", v)])
  g17 : mg "NoRow" = some (.ref (Cl 17))
  e17 : EDf2 P w K mg base 1 "NoRow" (Cl 17) "name" "case" (fun v u => [("case", u), ("name", v)])
  g18 : mg "NotNow" = some (.ref (Cl 18))
  e18 : EDf P w K mg base 1 "NotNow" (Cl 18) "thing" (fun v => [("thing", v)])
  g19 : mg "Present" = some (.ref (Cl 19))
  e19 : EDf P w K mg base 1 "Present" (Cl 19) "mode" (fun v => [("word", .str "present"), ("mode", v)])
  g20 : mg "Refused" = some (.ref (Cl 20))
  e20 : EDf0 P w K mg base 1 "Refused" (Cl 20) [("word", .str "refused")]
  g21 : mg "TooMany" = some (.ref (Cl 21))
  e21 : EDf P w K mg base 1 "TooMany" (Cl 21) "what" (fun v => [("what", v)])
  g22 : mg "Unknown" = some (.ref (Cl 22))
  e22 : EDf P w K mg base 1 "Unknown" (Cl 22) "name" (fun v => [("name", v)])
  g23 : mg "Unlike" = some (.ref (Cl 23))
  e23 : EDf P w K mg base 1 "Unlike" (Cl 23) "name" (fun v => [("name", v)])
  g24 : mg "Waits" = some (.ref (Cl 24))
  e24 : EDf P w K mg base 1 "Waits" (Cl 24) "record" (fun v => [("word", .str "waits"), ("record", v)])
  k24 : EDfK P w K mg base 1 "Waits" (Cl 24) "record" (fun v => [("word", .str "waits"), ("record", v)])
  gI : mg "InnercommitsError" = some (.ref CI)
  ec : ∀ k, k < 25 → EcF K (Cl k)
  eg : EgF K
  kit : ∀ k j, k < 25 → j < 25 → PySem.W.kitOne K (.ref (Cl k)) (.ref (Cl j)) = some (decide (j = k))
  kI : ∀ k, k < 25 → PySem.W.kitOne K (.ref (Cl k)) (.ref CI) = some true
  kV : ∀ k, k < 25 → PySem.W.kitOne K (.ref (Cl k)) (.type "ValueError") = some true
  no : ∀ k, k < 25 → ∀ x ∈ flds, PySem.W.findIn K (.ref (Cl k)) x = some none
end IC
namespace IC
open PySem L2 TL
/-! ### things: data that errors are made of -/
structure Thg (K : PySem.W.Frag) (H : Hp) (v : V) (d : PyData) : Prop where
  dp : Dp K H v d
  fi : Fine d 60 2
  nd : d.hasDict = false
  sh : SeqAt.shaped d = true
theorem Thg.mv {K : PySem.W.Frag} {H H' : Hp} {v : V} {d : PyData} (h : Thg K H v d) (e : Same H H') : Thg K H' v d := { h with dp := Dp.mv e h.dp }
theorem lay_str {z : Str} (h : IsW z) : PyData.strOk z = true := by
  have q : SeqAt.shaped (.list ([z].map PyData.str)) = true := shaped_strs _ fun y hy c hc => by
    rw [List.mem_singleton.mp hy] at hc
    exact (h.2.2 c hc).ok
  have q := SeqAt.canLay_of_shaped q
  simpa [PyData.canLay0, PyData.canLayAll0] using q
theorem shp {d : PyData} (h : d.canLay0 = true) (k : d.depth ≤ 64) : SeqAt.shaped d = true := by
  show (d.canLay0 && decide (d.depth ≤ 64)) = true
  rw [h, decide_eq_true k]
  rfl
theorem w_open : IsW ("open" : Str) := by
  refine ⟨by decide +kernel, by decide +kernel, fun c hc => ?_⟩
  have q : (tl ("open" : Str)).all (fun c => decide (97 ≤ c) && decide (c ≤ 122)) = true := by decide +kernel
  have := List.all_eq_true.mp q c hc
  rw [Bool.and_eq_true, decide_eq_true_iff, decide_eq_true_iff] at this
  exact this
section
variable {K : PySem.W.Frag} {H : Hp} {z : Str} {t t0 t2 : Addr}
theorem th_word (h : IsW z) : Thg K H (.str z) (.str z) := ⟨.str _, (fine_word h).up (by decide) (by decide), rfl, shp (by simp [PyData.canLay0, lay_str h]) (Nat.le_trans (fine_word h).d (by decide))⟩
theorem th_none : Thg K H .non .none := ⟨.non, fine_none.up (by decide) (by decide), rfl, by decide +kernel⟩
theorem th_int {i : Int} (h : i.natAbs < 1000) : Thg K H (.int i) (.int i) := ⟨.int _, (fine_int (by omega)).up (by decide) (by decide), rfl, shp (by simp [PyData.canLay0]) (Nat.le_trans (fine_int (i := i) (by omega)).d (by decide))⟩
theorem th_true : Thg K H (.bl true) (.bool true) := ⟨.bl _, (fine_bool _).up (by decide) (by decide), rfl, by decide +kernel⟩
theorem th_empty : Thg K H (.str "") (.str "") := ⟨.str _, (fine_str (n := 8) (by decide +kernel) (by intro c hc; cases hc)).up (by decide) (by decide), rfl, by decide +kernel⟩
theorem th_pair (h : IsW z) (e : H t = some (.tup [.str z, .int 1])) : Thg K H (.ref t) (.tuple [.str z, .int 1]) := by
  have f := FineAll.cons (fine_word h) (FineAll.cons (fine_int (i := 1) (by decide)) fine_nil)
  have f := f.tup
  refine ⟨.tup (SqT.of e) (.cons (.str _) (.cons (.int _) .nil)), f.up (by decide) (by decide), rfl, shp ?_ (Nat.le_trans f.d (by decide))⟩
  simp [PyData.canLay0, PyData.canLayAll0, lay_str h]
theorem th_list (h : IsW z) (e : H t = some (.lst [.str z])) : Thg K H (.ref t) (.list [.str z]) := by
  have f := (FineAll.cons (fine_word h) fine_nil).list
  refine ⟨.lst (SqL.of e) (.cons (.str _) .nil), f.up (by decide) (by decide), rfl, shp ?_ (Nat.le_trans f.d (by decide))⟩
  simp [PyData.canLay0, PyData.canLayAll0, lay_str h]
theorem th_deep (h : IsW z) (e : H t = some (.tup [.str "open", .ref t0, .ref t2])) (e0 : H t0 = some (.tup [])) (e2 : H t2 = some (.tup [.str z])) : Thg K H (.ref t) (.tuple [.str "open", .tuple [], .tuple [.str z]]) := by
  have f0 := (FineAll.up fine_nil (Nat.le_refl _) (Nat.zero_le 0)).tup
  have f2 := (FineAll.cons (fine_word h) fine_nil).tup
  have f := FineAll.cons ((fine_word w_open).up (Nat.le_refl _) (Nat.zero_le 1)) (FineAll.cons f0 (FineAll.cons f2 (fine_nil.up (Nat.le_refl _) (Nat.zero_le 1))))
  have f := f.tup
  refine ⟨.tup (SqT.of e) (.cons (.str _) (.cons (.tup (SqT.of e0) .nil) (.cons (.tup (SqT.of e2) (.cons (.str _) .nil)) .nil))), f.up (by decide) (by decide), rfl, shp ?_ (Nat.le_trans f.d (by decide))⟩
  simp [PyData.canLay0, PyData.canLayAll0, lay_str h, lay_str w_open]
end
@[irreducible] def spThing (K : PySem.W.Frag) : Sp := fun vs H Q _ => ∃ (p : Addr) (m : Int), vs = [.ref p] ∧ PoolAt H p m ∧ m ≤ 1000000 ∧ ∀ (H' : Hp) (v : V) (d : PyData), Kp [p] H H' → PoolAt H' p (m + 20) → Thg K (del H' p) v d → Q v H'
section
variable {P : Program} {w : World} {K : PySem.W.Frag} {mg : Str → Option Value} {base : Heap}
theorem ok_thing {f : Addr} {fd : FuncData} (F : Fun K "_law_thing" "_law_thing" s_law_thing f fd) (T : Bn mg) (D_law_draw : Df P w K mg base 1 "_law_draw" ["pool", "many"] spDraw) (D_law_word : Df P w K mg base 2 "_law_word" ["pool"] spWord) : FnOk P w K mg base CX0 3 f fd ["pool"] (spThing K) := by
  refine F.ok sc_law_thing (fun vs H Q E h => ?_) (fun cdv A outer s H vs Q E hr h => ?_)
  · unfold spThing at h
    obtain ⟨p, m, rfl, _⟩ := h
    rfl
  · unfold spThing at h
    obtain ⟨p, m, rfl, po, hm, k⟩ := h
    refine ⟨_, (pss_cons (ps_set (i := 1) sc_law_thing.nd rfl (Or.inl rfl) (pe_df D_law_word hr (by decide) rfl (pa_cons (pv 0) pa_nil)))
  (pss_cons (ps_set (i := 2) sc_law_thing.nd rfl (Or.inl rfl) (pe_lst (pa_cons (pv 1) (pa_cons pe_non (pa_cons (pe_op op_sub (pe_df D_law_draw hr (by decide) rfl (pa_cons (pv 0) (pa_cons pe_int pa_nil))) pe_int) (pa_cons pe_bl (pa_cons (pe_tup (pa_cons (pv 1) (pa_cons pe_int pa_nil))) (pa_cons (pe_lst (pa_cons (pv 1) pa_nil)) (pa_cons pe_str (pa_cons (pe_tup (pa_cons pe_str (pa_cons (pe_tup pa_nil) (pa_cons (pe_tup (pa_cons (pv 1) pa_nil)) pa_nil)))) pa_nil))))))))))
  (pss_one (ps_ret (pe_ix ix_list (pv 2) (pe_df D_law_draw hr (by decide) rfl (pa_cons (pv 0) (pa_cons pe_int pa_nil))) (fun _ _ => rfl)))))), ?_⟩
    refine ⟨_, rfl, p, m, rfl, po, by omega, fun z H1 hz po1 kp1 => ?_⟩
    refine ⟨_, rfl, _, rfl, p, 100, _, rfl, po1, by omega, by decide, by decide, fun d o d0 d1 po2 => ⟨_, _, rfl, rfl, ?_⟩⟩
    have kp2 := kp1.trans (Kp.at_ (o := o) (List.mem_singleton.mpr rfl))
    generalize upd H1 p o = H2 at po2 kp2 ⊢
    clear kp1 po1
    refine ⟨_, rfl, (by show 2 ≤ sizeLine; decide), fun t1 n1 => ?_⟩
    refine ⟨_, rfl, (by show 1 ≤ sizeLine; decide), fun l1 n2 => ?_⟩
    refine ⟨Nat.zero_le _, fun t0 n3 => ?_⟩
    refine ⟨_, rfl, (by show 1 ≤ sizeLine; decide), fun t2 n4 => ?_⟩
    refine ⟨(by show 3 ≤ sizeLine; decide), fun t3 n5 => ?_⟩
    refine ⟨(by show 8 ≤ sizeLine; decide), fun l2 n6 => ?_⟩
    have s1 := Same.new (o := .tup [.str z, .int 1]) n1
    have s2 := Same.new (o := .lst [.str z]) n2
    have s3 := Same.new (o := .tup []) n3
    have s4 := Same.new (o := .tup [.str z]) n4
    have s5 := Same.new (o := .tup [.str "open", .ref t0, .ref t2]) n5
    have s6 := Same.new (o := .lst [.str z, .non, .int (d - 50), .bl true, .ref t1, .ref l1, .str "", .ref t3]) n6
    have e1 := s6 _ _ (s5 _ _ (s4 _ _ (s3 _ _ (s2 _ _ (upd_same : upd H2 t1 (.tup [.str z, .int 1]) t1 = _)))))
    have e2 := s6 _ _ (s5 _ _ (s4 _ _ (s3 _ _ (upd_same : upd (upd H2 t1 (.tup [.str z, .int 1])) l1 (.lst [.str z]) l1 = _))))
    have e3 := s6 _ _ (s5 _ _ (s4 _ _ (upd_same : upd (upd (upd H2 t1 (.tup [.str z, .int 1])) l1 (.lst [.str z])) t0 (.tup []) t0 = _)))
    have e4 := s6 _ _ (s5 _ _ (upd_same : upd (upd (upd (upd H2 t1 (.tup [.str z, .int 1])) l1 (.lst [.str z])) t0 (.tup [])) t2 (.tup [.str z]) t2 = _))
    have e5 := s6 _ _ (upd_same : upd (upd (upd (upd (upd H2 t1 (.tup [.str z, .int 1])) l1 (.lst [.str z])) t0 (.tup [])) t2 (.tup [.str z])) t3 (.tup [.str "open", .ref t0, .ref t2]) t3 = _)
    have e6 : upd (upd (upd (upd (upd (upd H2 t1 (.tup [.str z, .int 1])) l1 (.lst [.str z])) t0 (.tup [])) t2 (.tup [.str z])) t3 (.tup [.str "open", .ref t0, .ref t2])) l2 (.lst [.str z, .non, .int (d - 50), .bl true, .ref t1, .ref l1, .str "", .ref t3]) l2 = some (.lst [.str z, .non, .int (d - 50), .bl true, .ref t1, .ref l1, .str "", .ref t3]) := upd_same
    have sA := s1.trans (s2.trans (s3.trans (s4.trans (s5.trans s6))))
    have po3 := po2.mv fun u e => sA _ _ e
    have kp3 := kp2.trans (Kp.same sA)
    have np : ∀ {y : Addr}, H2 y = none → y ≠ p := fun {y} e q => by
      obtain ⟨a1, a2, a3, ep, _⟩ := po2
      rw [q, ep] at e
      cases e
    have q1 := np n1
    have q2 := np (s1.free n2)
    have q3 := np (s1.free (s2.free n3))
    have q4 := np (s1.free (s2.free (s3.free n4)))
    have q5 := np (s1.free (s2.free (s3.free (s4.free n5))))
    have q6 := np (s1.free (s2.free (s3.free (s4.free (s5.free n6)))))
    generalize upd (upd (upd (upd (upd (upd H2 t1 (.tup [.str z, .int 1])) l1 (.lst [.str z])) t0 (.tup [])) t2 (.tup [.str z])) t3 (.tup [.str "open", .ref t0, .ref t2])) l2 (.lst [.str z, .non, .int (d - 50), .bl true, .ref t1, .ref l1, .str "", .ref t3]) = H9 at e1 e2 e3 e4 e5 e6 po3 kp3 ⊢
    clear s1 s2 s3 s4 s5 s6 sA n1 n2 n3 n4 n5 n6
    refine ⟨_, rfl, _, rfl, p, 8, _, rfl, po3, by omega, by decide, by decide, fun c o2 c0 c1 po4 => ?_⟩
    have kp4 := kp3.trans (Kp.at_ (o := o2) (List.mem_singleton.mpr rfl))
    have el : ∀ {y : Addr} {u : HO}, y ≠ p → H9 y = some u → del (upd H9 p o2) p y = some u := fun {y u} n e => by
      rw [del_ne n, upd_ne n]
      exact e
    have fin : ∀ {v : V} {dd : PyData}, Thg K (del (upd H9 p o2) p) v dd → Q v (upd H9 p o2) := fun h => k _ _ _ kp4 (po4.up (by omega)) h
    have hl : SqL K (upd H9 p o2) l2 [.str z, .non, .int (d - 50), .bl true, .ref t1, .ref l1, .str "", .ref t3] := SqL.of (by rw [upd_ne q6]; exact e6)
    obtain ⟨j, rfl⟩ : ∃ j : Nat, c = j := ⟨c.toNat, by omega⟩
    have hj : j < 8 := by omega
    match j, hj with
    | 0, _ => exact ⟨l2, _, _, _, rfl, rfl, hl, atI_nat rfl, fin (th_word hz)⟩
    | 1, _ => exact ⟨l2, _, _, _, rfl, rfl, hl, atI_nat rfl, fin th_none⟩
    | 2, _ => exact ⟨l2, _, _, _, rfl, rfl, hl, atI_nat rfl, fin (th_int (by omega))⟩
    | 3, _ => exact ⟨l2, _, _, _, rfl, rfl, hl, atI_nat rfl, fin th_true⟩
    | 4, _ => exact ⟨l2, _, _, _, rfl, rfl, hl, atI_nat rfl, fin (th_pair hz (el q1 e1))⟩
    | 5, _ => exact ⟨l2, _, _, _, rfl, rfl, hl, atI_nat rfl, fin (th_list hz (el q2 e2))⟩
    | 6, _ => exact ⟨l2, _, _, _, rfl, rfl, hl, atI_nat rfl, fin th_empty⟩
    | 7, _ => exact ⟨l2, _, _, _, rfl, rfl, hl, atI_nat rfl, fin (th_deep hz (el q5 e5) (el q3 e3) (el q4 e4))⟩
end
end IC
namespace IC
open PySem L2 TL
@[irreducible] def spClasses (Cl : Nat → Addr) : Sp := fun vs H Q _ => ∃ (a : Addr) (k : Nat) (fs : List (Str × V)), vs = [.ref a] ∧ k < 25 ∧ XV H a (Cl k) fs ∧ ∀ (l : Addr) (H' : Hp), Same H H' → H l = none → H' l = some (.lst ((List.range 25).map fun j => V.bl (decide (j = k)))) → Q (.ref l) H'
section
variable {P : Program} {w : World} {K : PySem.W.Frag} {mg : Str → Option Value} {base : Heap} {Cl : Nat → Addr} {CI : Addr}
theorem ok_classes {f : Addr} {fd : FuncData} (F : Fun K "_law_classes" "_law_classes" s_law_classes f fd) (T : Bn mg) (L : E88 P w K mg base Cl CI) : FnOk P w K mg base CX0 2 f fd ["e"] (spClasses Cl) := by
  refine F.ok sc_law_classes (fun vs H Q E h => ?_) (fun cdv A outer s H vs Q E hr h => ?_)
  · unfold spClasses at h
    obtain ⟨a, k, fs, rfl, _⟩ := h
    rfl
  · unfold spClasses at h
    obtain ⟨a, k, fs, rfl, hk, xv, kk⟩ := h
    refine ⟨_, (pss_cons (ps_set (i := 1) sc_law_classes.nd rfl (Or.inl rfl) (pe_lst (pa_cons (pe_callB call_isE (by rfl) T.isi PyProof.Rows.boot_isinstance (pa_cons (pv 0) (pa_cons (pe_glob (v := .ref _) rfl L.g0 rfl) pa_nil))) (pa_cons (pe_callB call_isE (by rfl) T.isi PyProof.Rows.boot_isinstance (pa_cons (pv 0) (pa_cons (pe_glob (v := .ref _) rfl L.g1 rfl) pa_nil))) (pa_cons (pe_callB call_isE (by rfl) T.isi PyProof.Rows.boot_isinstance (pa_cons (pv 0) (pa_cons (pe_glob (v := .ref _) rfl L.g2 rfl) pa_nil))) (pa_cons (pe_callB call_isE (by rfl) T.isi PyProof.Rows.boot_isinstance (pa_cons (pv 0) (pa_cons (pe_glob (v := .ref _) rfl L.g3 rfl) pa_nil))) pa_nil))))))
  (pss_cons (ps_set (i := 1) sc_law_classes.nd rfl (Or.inl rfl) (pe_op op_cat (pv 1) (pe_lst (pa_cons (pe_callB call_isE (by rfl) T.isi PyProof.Rows.boot_isinstance (pa_cons (pv 0) (pa_cons (pe_glob (v := .ref _) rfl L.g4 rfl) pa_nil))) (pa_cons (pe_callB call_isE (by rfl) T.isi PyProof.Rows.boot_isinstance (pa_cons (pv 0) (pa_cons (pe_glob (v := .ref _) rfl L.g5 rfl) pa_nil))) (pa_cons (pe_callB call_isE (by rfl) T.isi PyProof.Rows.boot_isinstance (pa_cons (pv 0) (pa_cons (pe_glob (v := .ref _) rfl L.g6 rfl) pa_nil))) (pa_cons (pe_callB call_isE (by rfl) T.isi PyProof.Rows.boot_isinstance (pa_cons (pv 0) (pa_cons (pe_glob (v := .ref _) rfl L.g7 rfl) pa_nil))) pa_nil)))))))
  (pss_cons (ps_set (i := 1) sc_law_classes.nd rfl (Or.inl rfl) (pe_op op_cat (pv 1) (pe_lst (pa_cons (pe_callB call_isE (by rfl) T.isi PyProof.Rows.boot_isinstance (pa_cons (pv 0) (pa_cons (pe_glob (v := .ref _) rfl L.g8 rfl) pa_nil))) (pa_cons (pe_callB call_isE (by rfl) T.isi PyProof.Rows.boot_isinstance (pa_cons (pv 0) (pa_cons (pe_glob (v := .ref _) rfl L.g9 rfl) pa_nil))) (pa_cons (pe_callB call_isE (by rfl) T.isi PyProof.Rows.boot_isinstance (pa_cons (pv 0) (pa_cons (pe_glob (v := .ref _) rfl L.g10 rfl) pa_nil))) (pa_cons (pe_callB call_isE (by rfl) T.isi PyProof.Rows.boot_isinstance (pa_cons (pv 0) (pa_cons (pe_glob (v := .ref _) rfl L.g11 rfl) pa_nil))) pa_nil)))))))
  (pss_cons (ps_set (i := 1) sc_law_classes.nd rfl (Or.inl rfl) (pe_op op_cat (pv 1) (pe_lst (pa_cons (pe_callB call_isE (by rfl) T.isi PyProof.Rows.boot_isinstance (pa_cons (pv 0) (pa_cons (pe_glob (v := .ref _) rfl L.g12 rfl) pa_nil))) (pa_cons (pe_callB call_isE (by rfl) T.isi PyProof.Rows.boot_isinstance (pa_cons (pv 0) (pa_cons (pe_glob (v := .ref _) rfl L.g13 rfl) pa_nil))) (pa_cons (pe_callB call_isE (by rfl) T.isi PyProof.Rows.boot_isinstance (pa_cons (pv 0) (pa_cons (pe_glob (v := .ref _) rfl L.g14 rfl) pa_nil))) (pa_cons (pe_callB call_isE (by rfl) T.isi PyProof.Rows.boot_isinstance (pa_cons (pv 0) (pa_cons (pe_glob (v := .ref _) rfl L.g15 rfl) pa_nil))) pa_nil)))))))
  (pss_cons (ps_set (i := 1) sc_law_classes.nd rfl (Or.inl rfl) (pe_op op_cat (pv 1) (pe_lst (pa_cons (pe_callB call_isE (by rfl) T.isi PyProof.Rows.boot_isinstance (pa_cons (pv 0) (pa_cons (pe_glob (v := .ref _) rfl L.g16 rfl) pa_nil))) (pa_cons (pe_callB call_isE (by rfl) T.isi PyProof.Rows.boot_isinstance (pa_cons (pv 0) (pa_cons (pe_glob (v := .ref _) rfl L.g17 rfl) pa_nil))) (pa_cons (pe_callB call_isE (by rfl) T.isi PyProof.Rows.boot_isinstance (pa_cons (pv 0) (pa_cons (pe_glob (v := .ref _) rfl L.g18 rfl) pa_nil))) (pa_cons (pe_callB call_isE (by rfl) T.isi PyProof.Rows.boot_isinstance (pa_cons (pv 0) (pa_cons (pe_glob (v := .ref _) rfl L.g19 rfl) pa_nil))) pa_nil)))))))
  (pss_cons (ps_set (i := 1) sc_law_classes.nd rfl (Or.inl rfl) (pe_op op_cat (pv 1) (pe_lst (pa_cons (pe_callB call_isE (by rfl) T.isi PyProof.Rows.boot_isinstance (pa_cons (pv 0) (pa_cons (pe_glob (v := .ref _) rfl L.g20 rfl) pa_nil))) (pa_cons (pe_callB call_isE (by rfl) T.isi PyProof.Rows.boot_isinstance (pa_cons (pv 0) (pa_cons (pe_glob (v := .ref _) rfl L.g21 rfl) pa_nil))) (pa_cons (pe_callB call_isE (by rfl) T.isi PyProof.Rows.boot_isinstance (pa_cons (pv 0) (pa_cons (pe_glob (v := .ref _) rfl L.g22 rfl) pa_nil))) (pa_cons (pe_callB call_isE (by rfl) T.isi PyProof.Rows.boot_isinstance (pa_cons (pv 0) (pa_cons (pe_glob (v := .ref _) rfl L.g23 rfl) pa_nil))) pa_nil)))))))
  (pss_one (ps_ret (pe_op op_cat (pv 1) (pe_lst (pa_cons (pe_callB call_isE (by rfl) T.isi PyProof.Rows.boot_isinstance (pa_cons (pv 0) (pa_cons (pe_glob (v := .ref _) rfl L.g24 rfl) pa_nil))) pa_nil))))))))))), ?_⟩
    have sA : Same H H := fun _ _ e => e
    refine ⟨_, rfl, a, Cl k, _, _, fs, _, rfl, .own _, L.ec k hk, L.eg, xv, L.kit k 0 hk (by decide), ?_⟩
    refine ⟨_, rfl, a, Cl k, _, _, fs, _, rfl, .own _, L.ec k hk, L.eg, xv, L.kit k 1 hk (by decide), ?_⟩
    refine ⟨_, rfl, a, Cl k, _, _, fs, _, rfl, .own _, L.ec k hk, L.eg, xv, L.kit k 2 hk (by decide), ?_⟩
    refine ⟨_, rfl, a, Cl k, _, _, fs, _, rfl, .own _, L.ec k hk, L.eg, xv, L.kit k 3 hk (by decide), ?_⟩
    refine ⟨(by show 4 ≤ sizeLine; decide), fun m0 nm0 => ?_⟩
    have s0 := Same.new (o := .lst [.bl (decide (0 = k)), .bl (decide (1 = k)), .bl (decide (2 = k)), .bl (decide (3 = k))]) nm0
    have xv := xv.same s0
    have hl := (upd_same : upd H m0 (.lst [.bl (decide (0 = k)), .bl (decide (1 = k)), .bl (decide (2 = k)), .bl (decide (3 = k))]) m0 = _)
    have sA := sA.trans s0
    generalize upd H m0 (.lst [.bl (decide (0 = k)), .bl (decide (1 = k)), .bl (decide (2 = k)), .bl (decide (3 = k))]) = G0 at xv hl sA ⊢
    clear s0
    refine ⟨_, rfl, ?_⟩
    refine ⟨_, rfl, a, Cl k, _, _, fs, _, rfl, .own _, L.ec k hk, L.eg, xv, L.kit k 4 hk (by decide), ?_⟩
    refine ⟨_, rfl, a, Cl k, _, _, fs, _, rfl, .own _, L.ec k hk, L.eg, xv, L.kit k 5 hk (by decide), ?_⟩
    refine ⟨_, rfl, a, Cl k, _, _, fs, _, rfl, .own _, L.ec k hk, L.eg, xv, L.kit k 6 hk (by decide), ?_⟩
    refine ⟨_, rfl, a, Cl k, _, _, fs, _, rfl, .own _, L.ec k hk, L.eg, xv, L.kit k 7 hk (by decide), ?_⟩
    refine ⟨(by show 4 ≤ sizeLine; decide), fun m1 nm1 => ?_⟩
    have s1 := Same.new (o := .lst [.bl (decide (4 = k)), .bl (decide (5 = k)), .bl (decide (6 = k)), .bl (decide (7 = k))]) nm1
    have xv := xv.same s1
    have hl := s1 _ _ hl
    have hm := (upd_same : upd G0 m1 (.lst [.bl (decide (4 = k)), .bl (decide (5 = k)), .bl (decide (6 = k)), .bl (decide (7 = k))]) m1 = _)
    have sA := sA.trans s1
    generalize upd G0 m1 (.lst [.bl (decide (4 = k)), .bl (decide (5 = k)), .bl (decide (6 = k)), .bl (decide (7 = k))]) = J1 at xv hl hm sA ⊢
    clear s1
    refine ⟨m0, m1, [.bl (decide (0 = k)), .bl (decide (1 = k)), .bl (decide (2 = k)), .bl (decide (3 = k))], [.bl (decide (4 = k)), .bl (decide (5 = k)), .bl (decide (6 = k)), .bl (decide (7 = k))], rfl, rfl, hl, hm, (by show 8 ≤ sizeLine; decide), fun l1 nl1 => ?_⟩
    have t1 := Same.new (o := .lst [.bl (decide (0 = k)), .bl (decide (1 = k)), .bl (decide (2 = k)), .bl (decide (3 = k)), .bl (decide (4 = k)), .bl (decide (5 = k)), .bl (decide (6 = k)), .bl (decide (7 = k))]) nl1
    have xv := xv.same t1
    have hl : upd J1 l1 (.lst ([.bl (decide (0 = k)), .bl (decide (1 = k)), .bl (decide (2 = k)), .bl (decide (3 = k))] ++ [.bl (decide (4 = k)), .bl (decide (5 = k)), .bl (decide (6 = k)), .bl (decide (7 = k))])) l1 = some (.lst [.bl (decide (0 = k)), .bl (decide (1 = k)), .bl (decide (2 = k)), .bl (decide (3 = k)), .bl (decide (4 = k)), .bl (decide (5 = k)), .bl (decide (6 = k)), .bl (decide (7 = k))]) := upd_same
    have sA := sA.trans t1
    have eq1 : upd J1 l1 (.lst ([.bl (decide (0 = k)), .bl (decide (1 = k)), .bl (decide (2 = k)), .bl (decide (3 = k))] ++ [.bl (decide (4 = k)), .bl (decide (5 = k)), .bl (decide (6 = k)), .bl (decide (7 = k))])) = upd J1 l1 (.lst [.bl (decide (0 = k)), .bl (decide (1 = k)), .bl (decide (2 = k)), .bl (decide (3 = k)), .bl (decide (4 = k)), .bl (decide (5 = k)), .bl (decide (6 = k)), .bl (decide (7 = k))]) := rfl
    rw [eq1] at hl ⊢
    generalize upd J1 l1 (.lst [.bl (decide (0 = k)), .bl (decide (1 = k)), .bl (decide (2 = k)), .bl (decide (3 = k)), .bl (decide (4 = k)), .bl (decide (5 = k)), .bl (decide (6 = k)), .bl (decide (7 = k))]) = G1 at xv hl sA ⊢
    clear t1 eq1
    refine ⟨_, rfl, ?_⟩
    refine ⟨_, rfl, a, Cl k, _, _, fs, _, rfl, .own _, L.ec k hk, L.eg, xv, L.kit k 8 hk (by decide), ?_⟩
    refine ⟨_, rfl, a, Cl k, _, _, fs, _, rfl, .own _, L.ec k hk, L.eg, xv, L.kit k 9 hk (by decide), ?_⟩
    refine ⟨_, rfl, a, Cl k, _, _, fs, _, rfl, .own _, L.ec k hk, L.eg, xv, L.kit k 10 hk (by decide), ?_⟩
    refine ⟨_, rfl, a, Cl k, _, _, fs, _, rfl, .own _, L.ec k hk, L.eg, xv, L.kit k 11 hk (by decide), ?_⟩
    refine ⟨(by show 4 ≤ sizeLine; decide), fun m2 nm2 => ?_⟩
    have s2 := Same.new (o := .lst [.bl (decide (8 = k)), .bl (decide (9 = k)), .bl (decide (10 = k)), .bl (decide (11 = k))]) nm2
    have xv := xv.same s2
    have hl := s2 _ _ hl
    have hm := (upd_same : upd G1 m2 (.lst [.bl (decide (8 = k)), .bl (decide (9 = k)), .bl (decide (10 = k)), .bl (decide (11 = k))]) m2 = _)
    have sA := sA.trans s2
    generalize upd G1 m2 (.lst [.bl (decide (8 = k)), .bl (decide (9 = k)), .bl (decide (10 = k)), .bl (decide (11 = k))]) = J2 at xv hl hm sA ⊢
    clear s2
    refine ⟨l1, m2, [.bl (decide (0 = k)), .bl (decide (1 = k)), .bl (decide (2 = k)), .bl (decide (3 = k)), .bl (decide (4 = k)), .bl (decide (5 = k)), .bl (decide (6 = k)), .bl (decide (7 = k))], [.bl (decide (8 = k)), .bl (decide (9 = k)), .bl (decide (10 = k)), .bl (decide (11 = k))], rfl, rfl, hl, hm, (by show 12 ≤ sizeLine; decide), fun l2 nl2 => ?_⟩
    have t2 := Same.new (o := .lst [.bl (decide (0 = k)), .bl (decide (1 = k)), .bl (decide (2 = k)), .bl (decide (3 = k)), .bl (decide (4 = k)), .bl (decide (5 = k)), .bl (decide (6 = k)), .bl (decide (7 = k)), .bl (decide (8 = k)), .bl (decide (9 = k)), .bl (decide (10 = k)), .bl (decide (11 = k))]) nl2
    have xv := xv.same t2
    have hl : upd J2 l2 (.lst ([.bl (decide (0 = k)), .bl (decide (1 = k)), .bl (decide (2 = k)), .bl (decide (3 = k)), .bl (decide (4 = k)), .bl (decide (5 = k)), .bl (decide (6 = k)), .bl (decide (7 = k))] ++ [.bl (decide (8 = k)), .bl (decide (9 = k)), .bl (decide (10 = k)), .bl (decide (11 = k))])) l2 = some (.lst [.bl (decide (0 = k)), .bl (decide (1 = k)), .bl (decide (2 = k)), .bl (decide (3 = k)), .bl (decide (4 = k)), .bl (decide (5 = k)), .bl (decide (6 = k)), .bl (decide (7 = k)), .bl (decide (8 = k)), .bl (decide (9 = k)), .bl (decide (10 = k)), .bl (decide (11 = k))]) := upd_same
    have sA := sA.trans t2
    have eq2 : upd J2 l2 (.lst ([.bl (decide (0 = k)), .bl (decide (1 = k)), .bl (decide (2 = k)), .bl (decide (3 = k)), .bl (decide (4 = k)), .bl (decide (5 = k)), .bl (decide (6 = k)), .bl (decide (7 = k))] ++ [.bl (decide (8 = k)), .bl (decide (9 = k)), .bl (decide (10 = k)), .bl (decide (11 = k))])) = upd J2 l2 (.lst [.bl (decide (0 = k)), .bl (decide (1 = k)), .bl (decide (2 = k)), .bl (decide (3 = k)), .bl (decide (4 = k)), .bl (decide (5 = k)), .bl (decide (6 = k)), .bl (decide (7 = k)), .bl (decide (8 = k)), .bl (decide (9 = k)), .bl (decide (10 = k)), .bl (decide (11 = k))]) := rfl
    rw [eq2] at hl ⊢
    generalize upd J2 l2 (.lst [.bl (decide (0 = k)), .bl (decide (1 = k)), .bl (decide (2 = k)), .bl (decide (3 = k)), .bl (decide (4 = k)), .bl (decide (5 = k)), .bl (decide (6 = k)), .bl (decide (7 = k)), .bl (decide (8 = k)), .bl (decide (9 = k)), .bl (decide (10 = k)), .bl (decide (11 = k))]) = G2 at xv hl sA ⊢
    clear t2 eq2
    refine ⟨_, rfl, ?_⟩
    refine ⟨_, rfl, a, Cl k, _, _, fs, _, rfl, .own _, L.ec k hk, L.eg, xv, L.kit k 12 hk (by decide), ?_⟩
    refine ⟨_, rfl, a, Cl k, _, _, fs, _, rfl, .own _, L.ec k hk, L.eg, xv, L.kit k 13 hk (by decide), ?_⟩
    refine ⟨_, rfl, a, Cl k, _, _, fs, _, rfl, .own _, L.ec k hk, L.eg, xv, L.kit k 14 hk (by decide), ?_⟩
    refine ⟨_, rfl, a, Cl k, _, _, fs, _, rfl, .own _, L.ec k hk, L.eg, xv, L.kit k 15 hk (by decide), ?_⟩
    refine ⟨(by show 4 ≤ sizeLine; decide), fun m3 nm3 => ?_⟩
    have s3 := Same.new (o := .lst [.bl (decide (12 = k)), .bl (decide (13 = k)), .bl (decide (14 = k)), .bl (decide (15 = k))]) nm3
    have xv := xv.same s3
    have hl := s3 _ _ hl
    have hm := (upd_same : upd G2 m3 (.lst [.bl (decide (12 = k)), .bl (decide (13 = k)), .bl (decide (14 = k)), .bl (decide (15 = k))]) m3 = _)
    have sA := sA.trans s3
    generalize upd G2 m3 (.lst [.bl (decide (12 = k)), .bl (decide (13 = k)), .bl (decide (14 = k)), .bl (decide (15 = k))]) = J3 at xv hl hm sA ⊢
    clear s3
    refine ⟨l2, m3, [.bl (decide (0 = k)), .bl (decide (1 = k)), .bl (decide (2 = k)), .bl (decide (3 = k)), .bl (decide (4 = k)), .bl (decide (5 = k)), .bl (decide (6 = k)), .bl (decide (7 = k)), .bl (decide (8 = k)), .bl (decide (9 = k)), .bl (decide (10 = k)), .bl (decide (11 = k))], [.bl (decide (12 = k)), .bl (decide (13 = k)), .bl (decide (14 = k)), .bl (decide (15 = k))], rfl, rfl, hl, hm, (by show 16 ≤ sizeLine; decide), fun l3 nl3 => ?_⟩
    have t3 := Same.new (o := .lst [.bl (decide (0 = k)), .bl (decide (1 = k)), .bl (decide (2 = k)), .bl (decide (3 = k)), .bl (decide (4 = k)), .bl (decide (5 = k)), .bl (decide (6 = k)), .bl (decide (7 = k)), .bl (decide (8 = k)), .bl (decide (9 = k)), .bl (decide (10 = k)), .bl (decide (11 = k)), .bl (decide (12 = k)), .bl (decide (13 = k)), .bl (decide (14 = k)), .bl (decide (15 = k))]) nl3
    have xv := xv.same t3
    have hl : upd J3 l3 (.lst ([.bl (decide (0 = k)), .bl (decide (1 = k)), .bl (decide (2 = k)), .bl (decide (3 = k)), .bl (decide (4 = k)), .bl (decide (5 = k)), .bl (decide (6 = k)), .bl (decide (7 = k)), .bl (decide (8 = k)), .bl (decide (9 = k)), .bl (decide (10 = k)), .bl (decide (11 = k))] ++ [.bl (decide (12 = k)), .bl (decide (13 = k)), .bl (decide (14 = k)), .bl (decide (15 = k))])) l3 = some (.lst [.bl (decide (0 = k)), .bl (decide (1 = k)), .bl (decide (2 = k)), .bl (decide (3 = k)), .bl (decide (4 = k)), .bl (decide (5 = k)), .bl (decide (6 = k)), .bl (decide (7 = k)), .bl (decide (8 = k)), .bl (decide (9 = k)), .bl (decide (10 = k)), .bl (decide (11 = k)), .bl (decide (12 = k)), .bl (decide (13 = k)), .bl (decide (14 = k)), .bl (decide (15 = k))]) := upd_same
    have sA := sA.trans t3
    have eq3 : upd J3 l3 (.lst ([.bl (decide (0 = k)), .bl (decide (1 = k)), .bl (decide (2 = k)), .bl (decide (3 = k)), .bl (decide (4 = k)), .bl (decide (5 = k)), .bl (decide (6 = k)), .bl (decide (7 = k)), .bl (decide (8 = k)), .bl (decide (9 = k)), .bl (decide (10 = k)), .bl (decide (11 = k))] ++ [.bl (decide (12 = k)), .bl (decide (13 = k)), .bl (decide (14 = k)), .bl (decide (15 = k))])) = upd J3 l3 (.lst [.bl (decide (0 = k)), .bl (decide (1 = k)), .bl (decide (2 = k)), .bl (decide (3 = k)), .bl (decide (4 = k)), .bl (decide (5 = k)), .bl (decide (6 = k)), .bl (decide (7 = k)), .bl (decide (8 = k)), .bl (decide (9 = k)), .bl (decide (10 = k)), .bl (decide (11 = k)), .bl (decide (12 = k)), .bl (decide (13 = k)), .bl (decide (14 = k)), .bl (decide (15 = k))]) := rfl
    rw [eq3] at hl ⊢
    generalize upd J3 l3 (.lst [.bl (decide (0 = k)), .bl (decide (1 = k)), .bl (decide (2 = k)), .bl (decide (3 = k)), .bl (decide (4 = k)), .bl (decide (5 = k)), .bl (decide (6 = k)), .bl (decide (7 = k)), .bl (decide (8 = k)), .bl (decide (9 = k)), .bl (decide (10 = k)), .bl (decide (11 = k)), .bl (decide (12 = k)), .bl (decide (13 = k)), .bl (decide (14 = k)), .bl (decide (15 = k))]) = G3 at xv hl sA ⊢
    clear t3 eq3
    refine ⟨_, rfl, ?_⟩
    refine ⟨_, rfl, a, Cl k, _, _, fs, _, rfl, .own _, L.ec k hk, L.eg, xv, L.kit k 16 hk (by decide), ?_⟩
    refine ⟨_, rfl, a, Cl k, _, _, fs, _, rfl, .own _, L.ec k hk, L.eg, xv, L.kit k 17 hk (by decide), ?_⟩
    refine ⟨_, rfl, a, Cl k, _, _, fs, _, rfl, .own _, L.ec k hk, L.eg, xv, L.kit k 18 hk (by decide), ?_⟩
    refine ⟨_, rfl, a, Cl k, _, _, fs, _, rfl, .own _, L.ec k hk, L.eg, xv, L.kit k 19 hk (by decide), ?_⟩
    refine ⟨(by show 4 ≤ sizeLine; decide), fun m4 nm4 => ?_⟩
    have s4 := Same.new (o := .lst [.bl (decide (16 = k)), .bl (decide (17 = k)), .bl (decide (18 = k)), .bl (decide (19 = k))]) nm4
    have xv := xv.same s4
    have hl := s4 _ _ hl
    have hm := (upd_same : upd G3 m4 (.lst [.bl (decide (16 = k)), .bl (decide (17 = k)), .bl (decide (18 = k)), .bl (decide (19 = k))]) m4 = _)
    have sA := sA.trans s4
    generalize upd G3 m4 (.lst [.bl (decide (16 = k)), .bl (decide (17 = k)), .bl (decide (18 = k)), .bl (decide (19 = k))]) = J4 at xv hl hm sA ⊢
    clear s4
    refine ⟨l3, m4, [.bl (decide (0 = k)), .bl (decide (1 = k)), .bl (decide (2 = k)), .bl (decide (3 = k)), .bl (decide (4 = k)), .bl (decide (5 = k)), .bl (decide (6 = k)), .bl (decide (7 = k)), .bl (decide (8 = k)), .bl (decide (9 = k)), .bl (decide (10 = k)), .bl (decide (11 = k)), .bl (decide (12 = k)), .bl (decide (13 = k)), .bl (decide (14 = k)), .bl (decide (15 = k))], [.bl (decide (16 = k)), .bl (decide (17 = k)), .bl (decide (18 = k)), .bl (decide (19 = k))], rfl, rfl, hl, hm, (by show 20 ≤ sizeLine; decide), fun l4 nl4 => ?_⟩
    have t4 := Same.new (o := .lst [.bl (decide (0 = k)), .bl (decide (1 = k)), .bl (decide (2 = k)), .bl (decide (3 = k)), .bl (decide (4 = k)), .bl (decide (5 = k)), .bl (decide (6 = k)), .bl (decide (7 = k)), .bl (decide (8 = k)), .bl (decide (9 = k)), .bl (decide (10 = k)), .bl (decide (11 = k)), .bl (decide (12 = k)), .bl (decide (13 = k)), .bl (decide (14 = k)), .bl (decide (15 = k)), .bl (decide (16 = k)), .bl (decide (17 = k)), .bl (decide (18 = k)), .bl (decide (19 = k))]) nl4
    have xv := xv.same t4
    have hl : upd J4 l4 (.lst ([.bl (decide (0 = k)), .bl (decide (1 = k)), .bl (decide (2 = k)), .bl (decide (3 = k)), .bl (decide (4 = k)), .bl (decide (5 = k)), .bl (decide (6 = k)), .bl (decide (7 = k)), .bl (decide (8 = k)), .bl (decide (9 = k)), .bl (decide (10 = k)), .bl (decide (11 = k)), .bl (decide (12 = k)), .bl (decide (13 = k)), .bl (decide (14 = k)), .bl (decide (15 = k))] ++ [.bl (decide (16 = k)), .bl (decide (17 = k)), .bl (decide (18 = k)), .bl (decide (19 = k))])) l4 = some (.lst [.bl (decide (0 = k)), .bl (decide (1 = k)), .bl (decide (2 = k)), .bl (decide (3 = k)), .bl (decide (4 = k)), .bl (decide (5 = k)), .bl (decide (6 = k)), .bl (decide (7 = k)), .bl (decide (8 = k)), .bl (decide (9 = k)), .bl (decide (10 = k)), .bl (decide (11 = k)), .bl (decide (12 = k)), .bl (decide (13 = k)), .bl (decide (14 = k)), .bl (decide (15 = k)), .bl (decide (16 = k)), .bl (decide (17 = k)), .bl (decide (18 = k)), .bl (decide (19 = k))]) := upd_same
    have sA := sA.trans t4
    have eq4 : upd J4 l4 (.lst ([.bl (decide (0 = k)), .bl (decide (1 = k)), .bl (decide (2 = k)), .bl (decide (3 = k)), .bl (decide (4 = k)), .bl (decide (5 = k)), .bl (decide (6 = k)), .bl (decide (7 = k)), .bl (decide (8 = k)), .bl (decide (9 = k)), .bl (decide (10 = k)), .bl (decide (11 = k)), .bl (decide (12 = k)), .bl (decide (13 = k)), .bl (decide (14 = k)), .bl (decide (15 = k))] ++ [.bl (decide (16 = k)), .bl (decide (17 = k)), .bl (decide (18 = k)), .bl (decide (19 = k))])) = upd J4 l4 (.lst [.bl (decide (0 = k)), .bl (decide (1 = k)), .bl (decide (2 = k)), .bl (decide (3 = k)), .bl (decide (4 = k)), .bl (decide (5 = k)), .bl (decide (6 = k)), .bl (decide (7 = k)), .bl (decide (8 = k)), .bl (decide (9 = k)), .bl (decide (10 = k)), .bl (decide (11 = k)), .bl (decide (12 = k)), .bl (decide (13 = k)), .bl (decide (14 = k)), .bl (decide (15 = k)), .bl (decide (16 = k)), .bl (decide (17 = k)), .bl (decide (18 = k)), .bl (decide (19 = k))]) := rfl
    rw [eq4] at hl ⊢
    generalize upd J4 l4 (.lst [.bl (decide (0 = k)), .bl (decide (1 = k)), .bl (decide (2 = k)), .bl (decide (3 = k)), .bl (decide (4 = k)), .bl (decide (5 = k)), .bl (decide (6 = k)), .bl (decide (7 = k)), .bl (decide (8 = k)), .bl (decide (9 = k)), .bl (decide (10 = k)), .bl (decide (11 = k)), .bl (decide (12 = k)), .bl (decide (13 = k)), .bl (decide (14 = k)), .bl (decide (15 = k)), .bl (decide (16 = k)), .bl (decide (17 = k)), .bl (decide (18 = k)), .bl (decide (19 = k))]) = G4 at xv hl sA ⊢
    clear t4 eq4
    refine ⟨_, rfl, ?_⟩
    refine ⟨_, rfl, a, Cl k, _, _, fs, _, rfl, .own _, L.ec k hk, L.eg, xv, L.kit k 20 hk (by decide), ?_⟩
    refine ⟨_, rfl, a, Cl k, _, _, fs, _, rfl, .own _, L.ec k hk, L.eg, xv, L.kit k 21 hk (by decide), ?_⟩
    refine ⟨_, rfl, a, Cl k, _, _, fs, _, rfl, .own _, L.ec k hk, L.eg, xv, L.kit k 22 hk (by decide), ?_⟩
    refine ⟨_, rfl, a, Cl k, _, _, fs, _, rfl, .own _, L.ec k hk, L.eg, xv, L.kit k 23 hk (by decide), ?_⟩
    refine ⟨(by show 4 ≤ sizeLine; decide), fun m5 nm5 => ?_⟩
    have s5 := Same.new (o := .lst [.bl (decide (20 = k)), .bl (decide (21 = k)), .bl (decide (22 = k)), .bl (decide (23 = k))]) nm5
    have xv := xv.same s5
    have hl := s5 _ _ hl
    have hm := (upd_same : upd G4 m5 (.lst [.bl (decide (20 = k)), .bl (decide (21 = k)), .bl (decide (22 = k)), .bl (decide (23 = k))]) m5 = _)
    have sA := sA.trans s5
    generalize upd G4 m5 (.lst [.bl (decide (20 = k)), .bl (decide (21 = k)), .bl (decide (22 = k)), .bl (decide (23 = k))]) = J5 at xv hl hm sA ⊢
    clear s5
    refine ⟨l4, m5, [.bl (decide (0 = k)), .bl (decide (1 = k)), .bl (decide (2 = k)), .bl (decide (3 = k)), .bl (decide (4 = k)), .bl (decide (5 = k)), .bl (decide (6 = k)), .bl (decide (7 = k)), .bl (decide (8 = k)), .bl (decide (9 = k)), .bl (decide (10 = k)), .bl (decide (11 = k)), .bl (decide (12 = k)), .bl (decide (13 = k)), .bl (decide (14 = k)), .bl (decide (15 = k)), .bl (decide (16 = k)), .bl (decide (17 = k)), .bl (decide (18 = k)), .bl (decide (19 = k))], [.bl (decide (20 = k)), .bl (decide (21 = k)), .bl (decide (22 = k)), .bl (decide (23 = k))], rfl, rfl, hl, hm, (by show 24 ≤ sizeLine; decide), fun l5 nl5 => ?_⟩
    have t5 := Same.new (o := .lst [.bl (decide (0 = k)), .bl (decide (1 = k)), .bl (decide (2 = k)), .bl (decide (3 = k)), .bl (decide (4 = k)), .bl (decide (5 = k)), .bl (decide (6 = k)), .bl (decide (7 = k)), .bl (decide (8 = k)), .bl (decide (9 = k)), .bl (decide (10 = k)), .bl (decide (11 = k)), .bl (decide (12 = k)), .bl (decide (13 = k)), .bl (decide (14 = k)), .bl (decide (15 = k)), .bl (decide (16 = k)), .bl (decide (17 = k)), .bl (decide (18 = k)), .bl (decide (19 = k)), .bl (decide (20 = k)), .bl (decide (21 = k)), .bl (decide (22 = k)), .bl (decide (23 = k))]) nl5
    have xv := xv.same t5
    have hl : upd J5 l5 (.lst ([.bl (decide (0 = k)), .bl (decide (1 = k)), .bl (decide (2 = k)), .bl (decide (3 = k)), .bl (decide (4 = k)), .bl (decide (5 = k)), .bl (decide (6 = k)), .bl (decide (7 = k)), .bl (decide (8 = k)), .bl (decide (9 = k)), .bl (decide (10 = k)), .bl (decide (11 = k)), .bl (decide (12 = k)), .bl (decide (13 = k)), .bl (decide (14 = k)), .bl (decide (15 = k)), .bl (decide (16 = k)), .bl (decide (17 = k)), .bl (decide (18 = k)), .bl (decide (19 = k))] ++ [.bl (decide (20 = k)), .bl (decide (21 = k)), .bl (decide (22 = k)), .bl (decide (23 = k))])) l5 = some (.lst [.bl (decide (0 = k)), .bl (decide (1 = k)), .bl (decide (2 = k)), .bl (decide (3 = k)), .bl (decide (4 = k)), .bl (decide (5 = k)), .bl (decide (6 = k)), .bl (decide (7 = k)), .bl (decide (8 = k)), .bl (decide (9 = k)), .bl (decide (10 = k)), .bl (decide (11 = k)), .bl (decide (12 = k)), .bl (decide (13 = k)), .bl (decide (14 = k)), .bl (decide (15 = k)), .bl (decide (16 = k)), .bl (decide (17 = k)), .bl (decide (18 = k)), .bl (decide (19 = k)), .bl (decide (20 = k)), .bl (decide (21 = k)), .bl (decide (22 = k)), .bl (decide (23 = k))]) := upd_same
    have sA := sA.trans t5
    have eq5 : upd J5 l5 (.lst ([.bl (decide (0 = k)), .bl (decide (1 = k)), .bl (decide (2 = k)), .bl (decide (3 = k)), .bl (decide (4 = k)), .bl (decide (5 = k)), .bl (decide (6 = k)), .bl (decide (7 = k)), .bl (decide (8 = k)), .bl (decide (9 = k)), .bl (decide (10 = k)), .bl (decide (11 = k)), .bl (decide (12 = k)), .bl (decide (13 = k)), .bl (decide (14 = k)), .bl (decide (15 = k)), .bl (decide (16 = k)), .bl (decide (17 = k)), .bl (decide (18 = k)), .bl (decide (19 = k))] ++ [.bl (decide (20 = k)), .bl (decide (21 = k)), .bl (decide (22 = k)), .bl (decide (23 = k))])) = upd J5 l5 (.lst [.bl (decide (0 = k)), .bl (decide (1 = k)), .bl (decide (2 = k)), .bl (decide (3 = k)), .bl (decide (4 = k)), .bl (decide (5 = k)), .bl (decide (6 = k)), .bl (decide (7 = k)), .bl (decide (8 = k)), .bl (decide (9 = k)), .bl (decide (10 = k)), .bl (decide (11 = k)), .bl (decide (12 = k)), .bl (decide (13 = k)), .bl (decide (14 = k)), .bl (decide (15 = k)), .bl (decide (16 = k)), .bl (decide (17 = k)), .bl (decide (18 = k)), .bl (decide (19 = k)), .bl (decide (20 = k)), .bl (decide (21 = k)), .bl (decide (22 = k)), .bl (decide (23 = k))]) := rfl
    rw [eq5] at hl ⊢
    generalize upd J5 l5 (.lst [.bl (decide (0 = k)), .bl (decide (1 = k)), .bl (decide (2 = k)), .bl (decide (3 = k)), .bl (decide (4 = k)), .bl (decide (5 = k)), .bl (decide (6 = k)), .bl (decide (7 = k)), .bl (decide (8 = k)), .bl (decide (9 = k)), .bl (decide (10 = k)), .bl (decide (11 = k)), .bl (decide (12 = k)), .bl (decide (13 = k)), .bl (decide (14 = k)), .bl (decide (15 = k)), .bl (decide (16 = k)), .bl (decide (17 = k)), .bl (decide (18 = k)), .bl (decide (19 = k)), .bl (decide (20 = k)), .bl (decide (21 = k)), .bl (decide (22 = k)), .bl (decide (23 = k))]) = G5 at xv hl sA ⊢
    clear t5 eq5
    refine ⟨_, rfl, ?_⟩
    refine ⟨_, rfl, a, Cl k, _, _, fs, _, rfl, .own _, L.ec k hk, L.eg, xv, L.kit k 24 hk (by decide), ?_⟩
    refine ⟨(by show 1 ≤ sizeLine; decide), fun m6 nm6 => ?_⟩
    have s6 := Same.new (o := .lst [.bl (decide (24 = k))]) nm6
    have xv := xv.same s6
    have hl := s6 _ _ hl
    have hm := (upd_same : upd G5 m6 (.lst [.bl (decide (24 = k))]) m6 = _)
    have sA := sA.trans s6
    generalize upd G5 m6 (.lst [.bl (decide (24 = k))]) = J6 at xv hl hm sA ⊢
    clear s6
    refine ⟨l5, m6, [.bl (decide (0 = k)), .bl (decide (1 = k)), .bl (decide (2 = k)), .bl (decide (3 = k)), .bl (decide (4 = k)), .bl (decide (5 = k)), .bl (decide (6 = k)), .bl (decide (7 = k)), .bl (decide (8 = k)), .bl (decide (9 = k)), .bl (decide (10 = k)), .bl (decide (11 = k)), .bl (decide (12 = k)), .bl (decide (13 = k)), .bl (decide (14 = k)), .bl (decide (15 = k)), .bl (decide (16 = k)), .bl (decide (17 = k)), .bl (decide (18 = k)), .bl (decide (19 = k)), .bl (decide (20 = k)), .bl (decide (21 = k)), .bl (decide (22 = k)), .bl (decide (23 = k))], [.bl (decide (24 = k))], rfl, rfl, hl, hm, (by show 25 ≤ sizeLine; decide), fun l6 nl6 => ?_⟩
    exact kk l6 _ (sA.trans (Same.new nl6)) (sA.free nl6) upd_same
end
end IC
namespace IC
open PySem L2 TL
/-- what is due of the sort k -/
def Due (H : Hp) : Nat → V → V → V → Prop
  | 11, _, _, x => x = .non
  | 17, v, u, x => ∃ t, x = .ref t ∧ H t = some (.tup [v, u])
  | 20, _, _, x => x = .non
  | _, v, _, x => x = v
theorem Due.same {H H' : Hp} (s : Same H H') {k : Nat} {v u x : V} (h : Due H k v u x) : Due H' k v u x := by
  unfold Due at h ⊢
  split at h
  · exact h
  · obtain ⟨t, e1, e2⟩ := h
    exact ⟨t, e1, s _ _ e2⟩
  · exact h
  · exact h
def PairAt (Cl : Nat → Addr) (H : Hp) (t : Addr) (k : Nat) (v u : V) : Prop := ∃ (a : Addr) (x : V), H t = some (.tup [.ref a, x]) ∧ XV H a (Cl k) (fsK k v u) ∧ Due H k v u x
theorem PairAt.same {Cl : Nat → Addr} {H H' : Hp} {t : Addr} {k : Nat} {v u : V} (h : PairAt Cl H t k v u) (s : Same H H') : PairAt Cl H' t k v u := by
  obtain ⟨a, x, e1, e2, e3⟩ := h
  exact ⟨a, x, s _ _ e1, e2.same s, e3.same s⟩
def Prs (Cl : Nat → Addr) (H : Hp) (v u : V) : Nat → List Addr → Prop
  | _, [] => True
  | k, t :: ts => PairAt Cl H t k v u ∧ Prs Cl H v u (k + 1) ts
section
variable {Cl : Nat → Addr} {H H' : Hp} {v u : V}
theorem Prs.same (s : Same H H') : ∀ {k : Nat} {ts : List Addr}, Prs Cl H v u k ts → Prs Cl H' v u k ts
  | _, [], _ => trivial
  | _, _ :: _, h => ⟨h.1.same s, Prs.same s h.2⟩
theorem Prs.app : ∀ {ts us : List Addr} {k : Nat}, Prs Cl H v u k ts → Prs Cl H v u (k + ts.length) us → Prs Cl H v u k (ts ++ us)
  | [], _, _, _, h => h
  | t :: ts, us, k, h, h2 => ⟨h.1, Prs.app h.2 (by
      have e : k + 1 + ts.length = k + (t :: ts).length := by rw [List.length_cons]; omega
      rw [e]
      exact h2)⟩
theorem Prs.get : ∀ {ts : List Addr} {k i : Nat} {t : Addr}, Prs Cl H v u k ts → ts[i]? = some t → PairAt Cl H t (k + i) v u
  | _ :: _, k, 0, _, h, e => by
    cases e
    exact h.1
  | t0 :: ts, k, i + 1, t, h, e => by
    have q := Prs.get (ts := ts) (k := k + 1) (i := i) h.2 e
    have e2 : k + 1 + i = k + (i + 1) := by omega
    rw [← e2]
    exact q
end
@[irreducible] def spPairs (Cl : Nat → Addr) (k0 n : Nat) : Sp := fun vs H Q _ => ∃ v u : V, vs = [v, u] ∧ ∀ (l : Addr) (H' : Hp) (ts : List Addr), Same H H' → H' l = some (.lst (ts.map V.ref)) → ts.length = n → Prs Cl H' v u k0 ts → Q (.ref l) H'
section
variable {P : Program} {w : World} {K : PySem.W.Frag} {mg : Str → Option Value} {base : Heap} {Cl : Nat → Addr} {CI : Addr}
theorem ok_law_first {f : Addr} {fd : FuncData} (F : Fun K "_law_first" "_law_first" s_law_first f fd) (T : Bn mg) (L : E88 P w K mg base Cl CI) : FnOk P w K mg base CX0 3 f fd ["one", "two"] (spPairs Cl 0 12) := by
  refine F.ok sc_law_first (fun vs H Q E h => ?_) (fun cdv A outer s H vs Q E hr h => ?_)
  · unfold spPairs at h
    obtain ⟨v, u, rfl, _⟩ := h
    rfl
  · unfold spPairs at h
    obtain ⟨v, u, rfl, kk⟩ := h
    refine ⟨_, (pss_cons (ps_set (i := 2) sc_law_first.nd rfl (Or.inl rfl) (pe_lst (pa_cons (pe_tup (pa_cons (pe_ev L.e0 hr (by decide) rfl (pa_cons (pv 0) pa_nil)) (pa_cons (pv 0) pa_nil))) (pa_cons (pe_tup (pa_cons (pe_ev L.e1 hr (by decide) rfl (pa_cons (pv 0) pa_nil)) (pa_cons (pv 0) pa_nil))) (pa_cons (pe_tup (pa_cons (pe_ev L.e2 hr (by decide) rfl (pa_cons (pv 0) pa_nil)) (pa_cons (pv 0) pa_nil))) (pa_cons (pe_tup (pa_cons (pe_ev L.e3 hr (by decide) rfl (pa_cons (pv 0) pa_nil)) (pa_cons (pv 0) pa_nil))) pa_nil))))))
  (pss_cons (ps_set (i := 2) sc_law_first.nd rfl (Or.inl rfl) (pe_op op_cat (pv 2) (pe_lst (pa_cons (pe_tup (pa_cons (pe_ev L.e4 hr (by decide) rfl (pa_cons (pv 0) pa_nil)) (pa_cons (pv 0) pa_nil))) (pa_cons (pe_tup (pa_cons (pe_ev L.e5 hr (by decide) rfl (pa_cons (pv 0) pa_nil)) (pa_cons (pv 0) pa_nil))) (pa_cons (pe_tup (pa_cons (pe_ev L.e6 hr (by decide) rfl (pa_cons (pv 0) pa_nil)) (pa_cons (pv 0) pa_nil))) (pa_cons (pe_tup (pa_cons (pe_ev L.e7 hr (by decide) rfl (pa_cons (pv 0) pa_nil)) (pa_cons (pv 0) pa_nil))) pa_nil)))))))
  (pss_cons (ps_set (i := 2) sc_law_first.nd rfl (Or.inl rfl) (pe_op op_cat (pv 2) (pe_lst (pa_cons (pe_tup (pa_cons (pe_ev L.e8 hr (by decide) rfl (pa_cons (pv 0) pa_nil)) (pa_cons (pv 0) pa_nil))) (pa_cons (pe_tup (pa_cons (pe_ev L.e9 hr (by decide) rfl (pa_cons (pv 0) pa_nil)) (pa_cons (pv 0) pa_nil))) (pa_cons (pe_tup (pa_cons (pe_ev L.e10 hr (by decide) rfl (pa_cons (pv 0) pa_nil)) (pa_cons (pv 0) pa_nil))) (pa_cons (pe_tup (pa_cons (pe_evP PySem.F.excBase_ValueError L.e11.1 L.g11 L.e11.2 rfl) (pa_cons pe_non pa_nil))) pa_nil)))))))
  (pss_one (ps_ret (pv 2)))))), ?_⟩
    have sA : Same H H := fun _ _ e => e
    have pr : Prs Cl H v u 0 [] := trivial
    refine ⟨_, rfl, _, rfl, fun a0 A0 s1 x0 => ?_⟩
    have sA := sA.trans s1
    have pr := pr.same s1
    refine ⟨_, rfl, (by show 2 ≤ sizeLine; decide), fun t0 nt => ?_⟩
    have s2 := Same.new (o := .tup [.ref a0, v]) nt
    have h2 := (upd_same : upd A0 t0 (.tup [.ref a0, v]) t0 = _)
    generalize upd A0 t0 (.tup [.ref a0, v]) = B0 at s2 h2 ⊢
    clear nt
    have pk : PairAt Cl B0 t0 0 v u := ⟨a0, v, h2, x0.same s2, rfl⟩
    have sA := sA.trans s2
    have pr := pr.same s2
    have pr : Prs Cl B0 v u 0 [t0] := Prs.app (us := [t0]) pr ⟨pk, trivial⟩
    clear pk s1 s2 h2 x0
    refine ⟨_, rfl, _, rfl, fun a1 A1 s1 x1 => ?_⟩
    have sA := sA.trans s1
    have pr := pr.same s1
    refine ⟨_, rfl, (by show 2 ≤ sizeLine; decide), fun t1 nt => ?_⟩
    have s2 := Same.new (o := .tup [.ref a1, v]) nt
    have h2 := (upd_same : upd A1 t1 (.tup [.ref a1, v]) t1 = _)
    generalize upd A1 t1 (.tup [.ref a1, v]) = B1 at s2 h2 ⊢
    clear nt
    have pk : PairAt Cl B1 t1 1 v u := ⟨a1, v, h2, x1.same s2, rfl⟩
    have sA := sA.trans s2
    have pr := pr.same s2
    have pr : Prs Cl B1 v u 0 [t0, t1] := Prs.app (us := [t1]) pr ⟨pk, trivial⟩
    clear pk s1 s2 h2 x1
    refine ⟨_, rfl, _, rfl, fun a2 A2 s1 x2 => ?_⟩
    have sA := sA.trans s1
    have pr := pr.same s1
    refine ⟨_, rfl, (by show 2 ≤ sizeLine; decide), fun t2 nt => ?_⟩
    have s2 := Same.new (o := .tup [.ref a2, v]) nt
    have h2 := (upd_same : upd A2 t2 (.tup [.ref a2, v]) t2 = _)
    generalize upd A2 t2 (.tup [.ref a2, v]) = B2 at s2 h2 ⊢
    clear nt
    have pk : PairAt Cl B2 t2 2 v u := ⟨a2, v, h2, x2.same s2, rfl⟩
    have sA := sA.trans s2
    have pr := pr.same s2
    have pr : Prs Cl B2 v u 0 [t0, t1, t2] := Prs.app (us := [t2]) pr ⟨pk, trivial⟩
    clear pk s1 s2 h2 x2
    refine ⟨_, rfl, _, rfl, fun a3 A3 s1 x3 => ?_⟩
    have sA := sA.trans s1
    have pr := pr.same s1
    refine ⟨_, rfl, (by show 2 ≤ sizeLine; decide), fun t3 nt => ?_⟩
    have s2 := Same.new (o := .tup [.ref a3, v]) nt
    have h2 := (upd_same : upd A3 t3 (.tup [.ref a3, v]) t3 = _)
    generalize upd A3 t3 (.tup [.ref a3, v]) = B3 at s2 h2 ⊢
    clear nt
    have pk : PairAt Cl B3 t3 3 v u := ⟨a3, v, h2, x3.same s2, rfl⟩
    have sA := sA.trans s2
    have pr := pr.same s2
    have pr : Prs Cl B3 v u 0 [t0, t1, t2, t3] := Prs.app (us := [t3]) pr ⟨pk, trivial⟩
    clear pk s1 s2 h2 x3
    refine ⟨(by show 4 ≤ sizeLine; decide), fun m0 nm => ?_⟩
    have s1 := Same.new (o := .lst [.ref t0, .ref t1, .ref t2, .ref t3]) nm
    have hm := (upd_same : upd B3 m0 (.lst [.ref t0, .ref t1, .ref t2, .ref t3]) m0 = _)
    generalize upd B3 m0 (.lst [.ref t0, .ref t1, .ref t2, .ref t3]) = M0 at s1 hm ⊢
    clear nm
    have sA := sA.trans s1
    have pr := pr.same s1
    have hl := hm
    clear hm s1
    refine ⟨_, rfl, ?_⟩
    refine ⟨_, rfl, _, rfl, fun a4 A4 s1 x4 => ?_⟩
    have sA := sA.trans s1
    have pr := pr.same s1
    have hl := s1 _ _ hl
    refine ⟨_, rfl, (by show 2 ≤ sizeLine; decide), fun t4 nt => ?_⟩
    have s2 := Same.new (o := .tup [.ref a4, v]) nt
    have h2 := (upd_same : upd A4 t4 (.tup [.ref a4, v]) t4 = _)
    generalize upd A4 t4 (.tup [.ref a4, v]) = B4 at s2 h2 ⊢
    clear nt
    have pk : PairAt Cl B4 t4 4 v u := ⟨a4, v, h2, x4.same s2, rfl⟩
    have sA := sA.trans s2
    have pr := pr.same s2
    have hl := s2 _ _ hl
    have pr : Prs Cl B4 v u 0 [t0, t1, t2, t3, t4] := Prs.app (us := [t4]) pr ⟨pk, trivial⟩
    clear pk s1 s2 h2 x4
    refine ⟨_, rfl, _, rfl, fun a5 A5 s1 x5 => ?_⟩
    have sA := sA.trans s1
    have pr := pr.same s1
    have hl := s1 _ _ hl
    refine ⟨_, rfl, (by show 2 ≤ sizeLine; decide), fun t5 nt => ?_⟩
    have s2 := Same.new (o := .tup [.ref a5, v]) nt
    have h2 := (upd_same : upd A5 t5 (.tup [.ref a5, v]) t5 = _)
    generalize upd A5 t5 (.tup [.ref a5, v]) = B5 at s2 h2 ⊢
    clear nt
    have pk : PairAt Cl B5 t5 5 v u := ⟨a5, v, h2, x5.same s2, rfl⟩
    have sA := sA.trans s2
    have pr := pr.same s2
    have hl := s2 _ _ hl
    have pr : Prs Cl B5 v u 0 [t0, t1, t2, t3, t4, t5] := Prs.app (us := [t5]) pr ⟨pk, trivial⟩
    clear pk s1 s2 h2 x5
    refine ⟨_, rfl, _, rfl, fun a6 A6 s1 x6 => ?_⟩
    have sA := sA.trans s1
    have pr := pr.same s1
    have hl := s1 _ _ hl
    refine ⟨_, rfl, (by show 2 ≤ sizeLine; decide), fun t6 nt => ?_⟩
    have s2 := Same.new (o := .tup [.ref a6, v]) nt
    have h2 := (upd_same : upd A6 t6 (.tup [.ref a6, v]) t6 = _)
    generalize upd A6 t6 (.tup [.ref a6, v]) = B6 at s2 h2 ⊢
    clear nt
    have pk : PairAt Cl B6 t6 6 v u := ⟨a6, v, h2, x6.same s2, rfl⟩
    have sA := sA.trans s2
    have pr := pr.same s2
    have hl := s2 _ _ hl
    have pr : Prs Cl B6 v u 0 [t0, t1, t2, t3, t4, t5, t6] := Prs.app (us := [t6]) pr ⟨pk, trivial⟩
    clear pk s1 s2 h2 x6
    refine ⟨_, rfl, _, rfl, fun a7 A7 s1 x7 => ?_⟩
    have sA := sA.trans s1
    have pr := pr.same s1
    have hl := s1 _ _ hl
    refine ⟨_, rfl, (by show 2 ≤ sizeLine; decide), fun t7 nt => ?_⟩
    have s2 := Same.new (o := .tup [.ref a7, v]) nt
    have h2 := (upd_same : upd A7 t7 (.tup [.ref a7, v]) t7 = _)
    generalize upd A7 t7 (.tup [.ref a7, v]) = B7 at s2 h2 ⊢
    clear nt
    have pk : PairAt Cl B7 t7 7 v u := ⟨a7, v, h2, x7.same s2, rfl⟩
    have sA := sA.trans s2
    have pr := pr.same s2
    have hl := s2 _ _ hl
    have pr : Prs Cl B7 v u 0 [t0, t1, t2, t3, t4, t5, t6, t7] := Prs.app (us := [t7]) pr ⟨pk, trivial⟩
    clear pk s1 s2 h2 x7
    refine ⟨(by show 4 ≤ sizeLine; decide), fun m1 nm => ?_⟩
    have s1 := Same.new (o := .lst [.ref t4, .ref t5, .ref t6, .ref t7]) nm
    have hm := (upd_same : upd B7 m1 (.lst [.ref t4, .ref t5, .ref t6, .ref t7]) m1 = _)
    generalize upd B7 m1 (.lst [.ref t4, .ref t5, .ref t6, .ref t7]) = M1 at s1 hm ⊢
    clear nm
    have sA := sA.trans s1
    have pr := pr.same s1
    have hl := s1 _ _ hl
    refine ⟨m0, m1, [.ref t0, .ref t1, .ref t2, .ref t3], [.ref t4, .ref t5, .ref t6, .ref t7], rfl, rfl, hl, hm, (by show 8 ≤ sizeLine; decide), fun l1 nl => ?_⟩
    have s2 := Same.new (o := .lst ([.ref t0, .ref t1, .ref t2, .ref t3] ++ [.ref t4, .ref t5, .ref t6, .ref t7])) nl
    have hl2 := (upd_same : upd M1 l1 (.lst ([.ref t0, .ref t1, .ref t2, .ref t3] ++ [.ref t4, .ref t5, .ref t6, .ref t7])) l1 = _)
    generalize upd M1 l1 (.lst ([.ref t0, .ref t1, .ref t2, .ref t3] ++ [.ref t4, .ref t5, .ref t6, .ref t7])) = N1 at s2 hl2 ⊢
    clear nl
    have sA := sA.trans s2
    have pr := pr.same s2
    have hl := s2 _ _ hl
    have hl : N1 l1 = some (.lst [.ref t0, .ref t1, .ref t2, .ref t3, .ref t4, .ref t5, .ref t6, .ref t7]) := hl2
    clear hl2 hm s1 s2
    refine ⟨_, rfl, ?_⟩
    refine ⟨_, rfl, _, rfl, fun a8 A8 s1 x8 => ?_⟩
    have sA := sA.trans s1
    have pr := pr.same s1
    have hl := s1 _ _ hl
    refine ⟨_, rfl, (by show 2 ≤ sizeLine; decide), fun t8 nt => ?_⟩
    have s2 := Same.new (o := .tup [.ref a8, v]) nt
    have h2 := (upd_same : upd A8 t8 (.tup [.ref a8, v]) t8 = _)
    generalize upd A8 t8 (.tup [.ref a8, v]) = B8 at s2 h2 ⊢
    clear nt
    have pk : PairAt Cl B8 t8 8 v u := ⟨a8, v, h2, x8.same s2, rfl⟩
    have sA := sA.trans s2
    have pr := pr.same s2
    have hl := s2 _ _ hl
    have pr : Prs Cl B8 v u 0 [t0, t1, t2, t3, t4, t5, t6, t7, t8] := Prs.app (us := [t8]) pr ⟨pk, trivial⟩
    clear pk s1 s2 h2 x8
    refine ⟨_, rfl, _, rfl, fun a9 A9 s1 x9 => ?_⟩
    have sA := sA.trans s1
    have pr := pr.same s1
    have hl := s1 _ _ hl
    refine ⟨_, rfl, (by show 2 ≤ sizeLine; decide), fun t9 nt => ?_⟩
    have s2 := Same.new (o := .tup [.ref a9, v]) nt
    have h2 := (upd_same : upd A9 t9 (.tup [.ref a9, v]) t9 = _)
    generalize upd A9 t9 (.tup [.ref a9, v]) = B9 at s2 h2 ⊢
    clear nt
    have pk : PairAt Cl B9 t9 9 v u := ⟨a9, v, h2, x9.same s2, rfl⟩
    have sA := sA.trans s2
    have pr := pr.same s2
    have hl := s2 _ _ hl
    have pr : Prs Cl B9 v u 0 [t0, t1, t2, t3, t4, t5, t6, t7, t8, t9] := Prs.app (us := [t9]) pr ⟨pk, trivial⟩
    clear pk s1 s2 h2 x9
    refine ⟨_, rfl, _, rfl, fun a10 A10 s1 x10 => ?_⟩
    have sA := sA.trans s1
    have pr := pr.same s1
    have hl := s1 _ _ hl
    refine ⟨_, rfl, (by show 2 ≤ sizeLine; decide), fun t10 nt => ?_⟩
    have s2 := Same.new (o := .tup [.ref a10, v]) nt
    have h2 := (upd_same : upd A10 t10 (.tup [.ref a10, v]) t10 = _)
    generalize upd A10 t10 (.tup [.ref a10, v]) = B10 at s2 h2 ⊢
    clear nt
    have pk : PairAt Cl B10 t10 10 v u := ⟨a10, v, h2, x10.same s2, rfl⟩
    have sA := sA.trans s2
    have pr := pr.same s2
    have hl := s2 _ _ hl
    have pr : Prs Cl B10 v u 0 [t0, t1, t2, t3, t4, t5, t6, t7, t8, t9, t10] := Prs.app (us := [t10]) pr ⟨pk, trivial⟩
    clear pk s1 s2 h2 x10
    refine fun a11 A11 s1 x11 => ?_
    have sA := sA.trans s1
    have pr := pr.same s1
    have hl := s1 _ _ hl
    refine ⟨(by show 2 ≤ sizeLine; decide), fun t11 nt => ?_⟩
    have s2 := Same.new (o := .tup [.ref a11, .non]) nt
    have h2 := (upd_same : upd A11 t11 (.tup [.ref a11, .non]) t11 = _)
    generalize upd A11 t11 (.tup [.ref a11, .non]) = B11 at s2 h2 ⊢
    clear nt
    have pk : PairAt Cl B11 t11 11 v u := ⟨a11, .non, h2, x11.same s2, rfl⟩
    have sA := sA.trans s2
    have pr := pr.same s2
    have hl := s2 _ _ hl
    have pr : Prs Cl B11 v u 0 [t0, t1, t2, t3, t4, t5, t6, t7, t8, t9, t10, t11] := Prs.app (us := [t11]) pr ⟨pk, trivial⟩
    clear pk s1 s2 h2 x11
    refine ⟨(by show 4 ≤ sizeLine; decide), fun m2 nm => ?_⟩
    have s1 := Same.new (o := .lst [.ref t8, .ref t9, .ref t10, .ref t11]) nm
    have hm := (upd_same : upd B11 m2 (.lst [.ref t8, .ref t9, .ref t10, .ref t11]) m2 = _)
    generalize upd B11 m2 (.lst [.ref t8, .ref t9, .ref t10, .ref t11]) = M2 at s1 hm ⊢
    clear nm
    have sA := sA.trans s1
    have pr := pr.same s1
    have hl := s1 _ _ hl
    refine ⟨l1, m2, [.ref t0, .ref t1, .ref t2, .ref t3, .ref t4, .ref t5, .ref t6, .ref t7], [.ref t8, .ref t9, .ref t10, .ref t11], rfl, rfl, hl, hm, (by show 12 ≤ sizeLine; decide), fun l2 nl => ?_⟩
    have s2 := Same.new (o := .lst ([.ref t0, .ref t1, .ref t2, .ref t3, .ref t4, .ref t5, .ref t6, .ref t7] ++ [.ref t8, .ref t9, .ref t10, .ref t11])) nl
    have hl2 := (upd_same : upd M2 l2 (.lst ([.ref t0, .ref t1, .ref t2, .ref t3, .ref t4, .ref t5, .ref t6, .ref t7] ++ [.ref t8, .ref t9, .ref t10, .ref t11])) l2 = _)
    generalize upd M2 l2 (.lst ([.ref t0, .ref t1, .ref t2, .ref t3, .ref t4, .ref t5, .ref t6, .ref t7] ++ [.ref t8, .ref t9, .ref t10, .ref t11])) = N2 at s2 hl2 ⊢
    clear nl
    have sA := sA.trans s2
    have pr := pr.same s2
    have hl := s2 _ _ hl
    have hl : N2 l2 = some (.lst [.ref t0, .ref t1, .ref t2, .ref t3, .ref t4, .ref t5, .ref t6, .ref t7, .ref t8, .ref t9, .ref t10, .ref t11]) := hl2
    clear hl2 hm s1 s2
    refine ⟨_, rfl, ?_⟩
    exact kk l2 _ [t0, t1, t2, t3, t4, t5, t6, t7, t8, t9, t10, t11] sA hl rfl pr
theorem ok_law_second {f : Addr} {fd : FuncData} (F : Fun K "_law_second" "_law_second" s_law_second f fd) (T : Bn mg) (L : E88 P w K mg base Cl CI) : FnOk P w K mg base CX0 3 f fd ["one", "two"] (spPairs Cl 12 13) := by
  refine F.ok sc_law_second (fun vs H Q E h => ?_) (fun cdv A outer s H vs Q E hr h => ?_)
  · unfold spPairs at h
    obtain ⟨v, u, rfl, _⟩ := h
    rfl
  · unfold spPairs at h
    obtain ⟨v, u, rfl, kk⟩ := h
    refine ⟨_, (pss_cons (ps_set (i := 2) sc_law_second.nd rfl (Or.inl rfl) (pe_lst (pa_cons (pe_tup (pa_cons (pe_ev L.e12 hr (by decide) rfl (pa_cons (pv 0) pa_nil)) (pa_cons (pv 0) pa_nil))) (pa_cons (pe_tup (pa_cons (pe_ev L.e13 hr (by decide) rfl (pa_cons (pv 0) pa_nil)) (pa_cons (pv 0) pa_nil))) (pa_cons (pe_tup (pa_cons (pe_ev L.e14 hr (by decide) rfl (pa_cons (pv 0) pa_nil)) (pa_cons (pv 0) pa_nil))) (pa_cons (pe_tup (pa_cons (pe_ev L.e15 hr (by decide) rfl (pa_cons (pv 0) pa_nil)) (pa_cons (pv 0) pa_nil))) pa_nil))))))
  (pss_cons (ps_set (i := 2) sc_law_second.nd rfl (Or.inl rfl) (pe_op op_cat (pv 2) (pe_lst (pa_cons (pe_tup (pa_cons (pe_ev L.e16 hr (by decide) rfl (pa_cons (pv 0) pa_nil)) (pa_cons (pv 0) pa_nil))) (pa_cons (pe_tup (pa_cons (pe_ev2 L.e17 hr (by decide) rfl (pa_cons (pv 0) (pa_cons (pv 1) pa_nil))) (pa_cons (pe_tup (pa_cons (pv 0) (pa_cons (pv 1) pa_nil))) pa_nil))) (pa_cons (pe_tup (pa_cons (pe_ev L.e18 hr (by decide) rfl (pa_cons (pv 0) pa_nil)) (pa_cons (pv 0) pa_nil))) (pa_cons (pe_tup (pa_cons (pe_ev L.e19 hr (by decide) rfl (pa_cons (pv 0) pa_nil)) (pa_cons (pv 0) pa_nil))) pa_nil)))))))
  (pss_one (ps_ret (pe_op op_cat (pv 2) (pe_lst (pa_cons (pe_tup (pa_cons (pe_ev0 L.e20 hr (by decide) rfl) (pa_cons pe_non pa_nil))) (pa_cons (pe_tup (pa_cons (pe_ev L.e21 hr (by decide) rfl (pa_cons (pv 0) pa_nil)) (pa_cons (pv 0) pa_nil))) (pa_cons (pe_tup (pa_cons (pe_ev L.e22 hr (by decide) rfl (pa_cons (pv 0) pa_nil)) (pa_cons (pv 0) pa_nil))) (pa_cons (pe_tup (pa_cons (pe_ev L.e23 hr (by decide) rfl (pa_cons (pv 0) pa_nil)) (pa_cons (pv 0) pa_nil))) (pa_cons (pe_tup (pa_cons (pe_ev L.e24 hr (by decide) rfl (pa_cons (pv 0) pa_nil)) (pa_cons (pv 0) pa_nil))) pa_nil))))))))))), ?_⟩
    have sA : Same H H := fun _ _ e => e
    have pr : Prs Cl H v u 12 [] := trivial
    refine ⟨_, rfl, _, rfl, fun a12 A12 s1 x12 => ?_⟩
    have sA := sA.trans s1
    have pr := pr.same s1
    refine ⟨_, rfl, (by show 2 ≤ sizeLine; decide), fun t12 nt => ?_⟩
    have s2 := Same.new (o := .tup [.ref a12, v]) nt
    have h2 := (upd_same : upd A12 t12 (.tup [.ref a12, v]) t12 = _)
    generalize upd A12 t12 (.tup [.ref a12, v]) = B12 at s2 h2 ⊢
    clear nt
    have pk : PairAt Cl B12 t12 12 v u := ⟨a12, v, h2, x12.same s2, rfl⟩
    have sA := sA.trans s2
    have pr := pr.same s2
    have pr : Prs Cl B12 v u 12 [t12] := Prs.app (us := [t12]) pr ⟨pk, trivial⟩
    clear pk s1 s2 h2 x12
    refine ⟨_, rfl, _, rfl, fun a13 A13 s1 x13 => ?_⟩
    have sA := sA.trans s1
    have pr := pr.same s1
    refine ⟨_, rfl, (by show 2 ≤ sizeLine; decide), fun t13 nt => ?_⟩
    have s2 := Same.new (o := .tup [.ref a13, v]) nt
    have h2 := (upd_same : upd A13 t13 (.tup [.ref a13, v]) t13 = _)
    generalize upd A13 t13 (.tup [.ref a13, v]) = B13 at s2 h2 ⊢
    clear nt
    have pk : PairAt Cl B13 t13 13 v u := ⟨a13, v, h2, x13.same s2, rfl⟩
    have sA := sA.trans s2
    have pr := pr.same s2
    have pr : Prs Cl B13 v u 12 [t12, t13] := Prs.app (us := [t13]) pr ⟨pk, trivial⟩
    clear pk s1 s2 h2 x13
    refine ⟨_, rfl, _, rfl, fun a14 A14 s1 x14 => ?_⟩
    have sA := sA.trans s1
    have pr := pr.same s1
    refine ⟨_, rfl, (by show 2 ≤ sizeLine; decide), fun t14 nt => ?_⟩
    have s2 := Same.new (o := .tup [.ref a14, v]) nt
    have h2 := (upd_same : upd A14 t14 (.tup [.ref a14, v]) t14 = _)
    generalize upd A14 t14 (.tup [.ref a14, v]) = B14 at s2 h2 ⊢
    clear nt
    have pk : PairAt Cl B14 t14 14 v u := ⟨a14, v, h2, x14.same s2, rfl⟩
    have sA := sA.trans s2
    have pr := pr.same s2
    have pr : Prs Cl B14 v u 12 [t12, t13, t14] := Prs.app (us := [t14]) pr ⟨pk, trivial⟩
    clear pk s1 s2 h2 x14
    refine ⟨_, rfl, _, rfl, fun a15 A15 s1 x15 => ?_⟩
    have sA := sA.trans s1
    have pr := pr.same s1
    refine ⟨_, rfl, (by show 2 ≤ sizeLine; decide), fun t15 nt => ?_⟩
    have s2 := Same.new (o := .tup [.ref a15, v]) nt
    have h2 := (upd_same : upd A15 t15 (.tup [.ref a15, v]) t15 = _)
    generalize upd A15 t15 (.tup [.ref a15, v]) = B15 at s2 h2 ⊢
    clear nt
    have pk : PairAt Cl B15 t15 15 v u := ⟨a15, v, h2, x15.same s2, rfl⟩
    have sA := sA.trans s2
    have pr := pr.same s2
    have pr : Prs Cl B15 v u 12 [t12, t13, t14, t15] := Prs.app (us := [t15]) pr ⟨pk, trivial⟩
    clear pk s1 s2 h2 x15
    refine ⟨(by show 4 ≤ sizeLine; decide), fun m0 nm => ?_⟩
    have s1 := Same.new (o := .lst [.ref t12, .ref t13, .ref t14, .ref t15]) nm
    have hm := (upd_same : upd B15 m0 (.lst [.ref t12, .ref t13, .ref t14, .ref t15]) m0 = _)
    generalize upd B15 m0 (.lst [.ref t12, .ref t13, .ref t14, .ref t15]) = M0 at s1 hm ⊢
    clear nm
    have sA := sA.trans s1
    have pr := pr.same s1
    have hl := hm
    clear hm s1
    refine ⟨_, rfl, ?_⟩
    refine ⟨_, rfl, _, rfl, fun a16 A16 s1 x16 => ?_⟩
    have sA := sA.trans s1
    have pr := pr.same s1
    have hl := s1 _ _ hl
    refine ⟨_, rfl, (by show 2 ≤ sizeLine; decide), fun t16 nt => ?_⟩
    have s2 := Same.new (o := .tup [.ref a16, v]) nt
    have h2 := (upd_same : upd A16 t16 (.tup [.ref a16, v]) t16 = _)
    generalize upd A16 t16 (.tup [.ref a16, v]) = B16 at s2 h2 ⊢
    clear nt
    have pk : PairAt Cl B16 t16 16 v u := ⟨a16, v, h2, x16.same s2, rfl⟩
    have sA := sA.trans s2
    have pr := pr.same s2
    have hl := s2 _ _ hl
    have pr : Prs Cl B16 v u 12 [t12, t13, t14, t15, t16] := Prs.app (us := [t16]) pr ⟨pk, trivial⟩
    clear pk s1 s2 h2 x16
    refine ⟨_, rfl, _, rfl, _, _, rfl, fun a17 A17 s1 x17 => ?_⟩
    have sA := sA.trans s1
    have pr := pr.same s1
    have hl := s1 _ _ hl
    refine ⟨_, rfl, _, rfl, (by show 2 ≤ sizeLine; decide), fun y17 ny => ?_⟩
    have s3 := Same.new (o := .tup [v, u]) ny
    have hy := (upd_same : upd A17 y17 (.tup [v, u]) y17 = _)
    generalize upd A17 y17 (.tup [v, u]) = Y17 at s3 hy ⊢
    clear ny
    have sA := sA.trans s3
    have pr := pr.same s3
    have hl := s3 _ _ hl
    have x17 := x17.same s3
    refine ⟨(by show 2 ≤ sizeLine; decide), fun t17 nt => ?_⟩
    have s2 := Same.new (o := .tup [.ref a17, .ref y17]) nt
    have h2 := (upd_same : upd Y17 t17 (.tup [.ref a17, .ref y17]) t17 = _)
    generalize upd Y17 t17 (.tup [.ref a17, .ref y17]) = B17 at s2 h2 ⊢
    clear nt
    have pk : PairAt Cl B17 t17 17 v u := ⟨a17, .ref y17, h2, x17.same s2, y17, rfl, s2 _ _ hy⟩
    have sA := sA.trans s2
    have pr := pr.same s2
    have hl := s2 _ _ hl
    have pr : Prs Cl B17 v u 12 [t12, t13, t14, t15, t16, t17] := Prs.app (us := [t17]) pr ⟨pk, trivial⟩
    clear pk s1 s2 h2 x17 s3 hy
    refine ⟨_, rfl, _, rfl, fun a18 A18 s1 x18 => ?_⟩
    have sA := sA.trans s1
    have pr := pr.same s1
    have hl := s1 _ _ hl
    refine ⟨_, rfl, (by show 2 ≤ sizeLine; decide), fun t18 nt => ?_⟩
    have s2 := Same.new (o := .tup [.ref a18, v]) nt
    have h2 := (upd_same : upd A18 t18 (.tup [.ref a18, v]) t18 = _)
    generalize upd A18 t18 (.tup [.ref a18, v]) = B18 at s2 h2 ⊢
    clear nt
    have pk : PairAt Cl B18 t18 18 v u := ⟨a18, v, h2, x18.same s2, rfl⟩
    have sA := sA.trans s2
    have pr := pr.same s2
    have hl := s2 _ _ hl
    have pr : Prs Cl B18 v u 12 [t12, t13, t14, t15, t16, t17, t18] := Prs.app (us := [t18]) pr ⟨pk, trivial⟩
    clear pk s1 s2 h2 x18
    refine ⟨_, rfl, _, rfl, fun a19 A19 s1 x19 => ?_⟩
    have sA := sA.trans s1
    have pr := pr.same s1
    have hl := s1 _ _ hl
    refine ⟨_, rfl, (by show 2 ≤ sizeLine; decide), fun t19 nt => ?_⟩
    have s2 := Same.new (o := .tup [.ref a19, v]) nt
    have h2 := (upd_same : upd A19 t19 (.tup [.ref a19, v]) t19 = _)
    generalize upd A19 t19 (.tup [.ref a19, v]) = B19 at s2 h2 ⊢
    clear nt
    have pk : PairAt Cl B19 t19 19 v u := ⟨a19, v, h2, x19.same s2, rfl⟩
    have sA := sA.trans s2
    have pr := pr.same s2
    have hl := s2 _ _ hl
    have pr : Prs Cl B19 v u 12 [t12, t13, t14, t15, t16, t17, t18, t19] := Prs.app (us := [t19]) pr ⟨pk, trivial⟩
    clear pk s1 s2 h2 x19
    refine ⟨(by show 4 ≤ sizeLine; decide), fun m1 nm => ?_⟩
    have s1 := Same.new (o := .lst [.ref t16, .ref t17, .ref t18, .ref t19]) nm
    have hm := (upd_same : upd B19 m1 (.lst [.ref t16, .ref t17, .ref t18, .ref t19]) m1 = _)
    generalize upd B19 m1 (.lst [.ref t16, .ref t17, .ref t18, .ref t19]) = M1 at s1 hm ⊢
    clear nm
    have sA := sA.trans s1
    have pr := pr.same s1
    have hl := s1 _ _ hl
    refine ⟨m0, m1, [.ref t12, .ref t13, .ref t14, .ref t15], [.ref t16, .ref t17, .ref t18, .ref t19], rfl, rfl, hl, hm, (by show 8 ≤ sizeLine; decide), fun l1 nl => ?_⟩
    have s2 := Same.new (o := .lst ([.ref t12, .ref t13, .ref t14, .ref t15] ++ [.ref t16, .ref t17, .ref t18, .ref t19])) nl
    have hl2 := (upd_same : upd M1 l1 (.lst ([.ref t12, .ref t13, .ref t14, .ref t15] ++ [.ref t16, .ref t17, .ref t18, .ref t19])) l1 = _)
    generalize upd M1 l1 (.lst ([.ref t12, .ref t13, .ref t14, .ref t15] ++ [.ref t16, .ref t17, .ref t18, .ref t19])) = N1 at s2 hl2 ⊢
    clear nl
    have sA := sA.trans s2
    have pr := pr.same s2
    have hl := s2 _ _ hl
    have hl : N1 l1 = some (.lst [.ref t12, .ref t13, .ref t14, .ref t15, .ref t16, .ref t17, .ref t18, .ref t19]) := hl2
    clear hl2 hm s1 s2
    refine ⟨_, rfl, ?_⟩
    refine fun a20 A20 s1 x20 => ?_
    have sA := sA.trans s1
    have pr := pr.same s1
    have hl := s1 _ _ hl
    refine ⟨(by show 2 ≤ sizeLine; decide), fun t20 nt => ?_⟩
    have s2 := Same.new (o := .tup [.ref a20, .non]) nt
    have h2 := (upd_same : upd A20 t20 (.tup [.ref a20, .non]) t20 = _)
    generalize upd A20 t20 (.tup [.ref a20, .non]) = B20 at s2 h2 ⊢
    clear nt
    have pk : PairAt Cl B20 t20 20 v u := ⟨a20, .non, h2, x20.same s2, rfl⟩
    have sA := sA.trans s2
    have pr := pr.same s2
    have hl := s2 _ _ hl
    have pr : Prs Cl B20 v u 12 [t12, t13, t14, t15, t16, t17, t18, t19, t20] := Prs.app (us := [t20]) pr ⟨pk, trivial⟩
    clear pk s1 s2 h2 x20
    refine ⟨_, rfl, _, rfl, fun a21 A21 s1 x21 => ?_⟩
    have sA := sA.trans s1
    have pr := pr.same s1
    have hl := s1 _ _ hl
    refine ⟨_, rfl, (by show 2 ≤ sizeLine; decide), fun t21 nt => ?_⟩
    have s2 := Same.new (o := .tup [.ref a21, v]) nt
    have h2 := (upd_same : upd A21 t21 (.tup [.ref a21, v]) t21 = _)
    generalize upd A21 t21 (.tup [.ref a21, v]) = B21 at s2 h2 ⊢
    clear nt
    have pk : PairAt Cl B21 t21 21 v u := ⟨a21, v, h2, x21.same s2, rfl⟩
    have sA := sA.trans s2
    have pr := pr.same s2
    have hl := s2 _ _ hl
    have pr : Prs Cl B21 v u 12 [t12, t13, t14, t15, t16, t17, t18, t19, t20, t21] := Prs.app (us := [t21]) pr ⟨pk, trivial⟩
    clear pk s1 s2 h2 x21
    refine ⟨_, rfl, _, rfl, fun a22 A22 s1 x22 => ?_⟩
    have sA := sA.trans s1
    have pr := pr.same s1
    have hl := s1 _ _ hl
    refine ⟨_, rfl, (by show 2 ≤ sizeLine; decide), fun t22 nt => ?_⟩
    have s2 := Same.new (o := .tup [.ref a22, v]) nt
    have h2 := (upd_same : upd A22 t22 (.tup [.ref a22, v]) t22 = _)
    generalize upd A22 t22 (.tup [.ref a22, v]) = B22 at s2 h2 ⊢
    clear nt
    have pk : PairAt Cl B22 t22 22 v u := ⟨a22, v, h2, x22.same s2, rfl⟩
    have sA := sA.trans s2
    have pr := pr.same s2
    have hl := s2 _ _ hl
    have pr : Prs Cl B22 v u 12 [t12, t13, t14, t15, t16, t17, t18, t19, t20, t21, t22] := Prs.app (us := [t22]) pr ⟨pk, trivial⟩
    clear pk s1 s2 h2 x22
    refine ⟨_, rfl, _, rfl, fun a23 A23 s1 x23 => ?_⟩
    have sA := sA.trans s1
    have pr := pr.same s1
    have hl := s1 _ _ hl
    refine ⟨_, rfl, (by show 2 ≤ sizeLine; decide), fun t23 nt => ?_⟩
    have s2 := Same.new (o := .tup [.ref a23, v]) nt
    have h2 := (upd_same : upd A23 t23 (.tup [.ref a23, v]) t23 = _)
    generalize upd A23 t23 (.tup [.ref a23, v]) = B23 at s2 h2 ⊢
    clear nt
    have pk : PairAt Cl B23 t23 23 v u := ⟨a23, v, h2, x23.same s2, rfl⟩
    have sA := sA.trans s2
    have pr := pr.same s2
    have hl := s2 _ _ hl
    have pr : Prs Cl B23 v u 12 [t12, t13, t14, t15, t16, t17, t18, t19, t20, t21, t22, t23] := Prs.app (us := [t23]) pr ⟨pk, trivial⟩
    clear pk s1 s2 h2 x23
    refine ⟨_, rfl, _, rfl, fun a24 A24 s1 x24 => ?_⟩
    have sA := sA.trans s1
    have pr := pr.same s1
    have hl := s1 _ _ hl
    refine ⟨_, rfl, (by show 2 ≤ sizeLine; decide), fun t24 nt => ?_⟩
    have s2 := Same.new (o := .tup [.ref a24, v]) nt
    have h2 := (upd_same : upd A24 t24 (.tup [.ref a24, v]) t24 = _)
    generalize upd A24 t24 (.tup [.ref a24, v]) = B24 at s2 h2 ⊢
    clear nt
    have pk : PairAt Cl B24 t24 24 v u := ⟨a24, v, h2, x24.same s2, rfl⟩
    have sA := sA.trans s2
    have pr := pr.same s2
    have hl := s2 _ _ hl
    have pr : Prs Cl B24 v u 12 [t12, t13, t14, t15, t16, t17, t18, t19, t20, t21, t22, t23, t24] := Prs.app (us := [t24]) pr ⟨pk, trivial⟩
    clear pk s1 s2 h2 x24
    refine ⟨(by show 5 ≤ sizeLine; decide), fun m2 nm => ?_⟩
    have s1 := Same.new (o := .lst [.ref t20, .ref t21, .ref t22, .ref t23, .ref t24]) nm
    have hm := (upd_same : upd B24 m2 (.lst [.ref t20, .ref t21, .ref t22, .ref t23, .ref t24]) m2 = _)
    generalize upd B24 m2 (.lst [.ref t20, .ref t21, .ref t22, .ref t23, .ref t24]) = M2 at s1 hm ⊢
    clear nm
    have sA := sA.trans s1
    have pr := pr.same s1
    have hl := s1 _ _ hl
    refine ⟨l1, m2, [.ref t12, .ref t13, .ref t14, .ref t15, .ref t16, .ref t17, .ref t18, .ref t19], [.ref t20, .ref t21, .ref t22, .ref t23, .ref t24], rfl, rfl, hl, hm, (by show 13 ≤ sizeLine; decide), fun l2 nl => ?_⟩
    have s2 := Same.new (o := .lst ([.ref t12, .ref t13, .ref t14, .ref t15, .ref t16, .ref t17, .ref t18, .ref t19] ++ [.ref t20, .ref t21, .ref t22, .ref t23, .ref t24])) nl
    have hl2 := (upd_same : upd M2 l2 (.lst ([.ref t12, .ref t13, .ref t14, .ref t15, .ref t16, .ref t17, .ref t18, .ref t19] ++ [.ref t20, .ref t21, .ref t22, .ref t23, .ref t24])) l2 = _)
    generalize upd M2 l2 (.lst ([.ref t12, .ref t13, .ref t14, .ref t15, .ref t16, .ref t17, .ref t18, .ref t19] ++ [.ref t20, .ref t21, .ref t22, .ref t23, .ref t24])) = N2 at s2 hl2 ⊢
    clear nl
    have sA := sA.trans s2
    have pr := pr.same s2
    have hl := s2 _ _ hl
    have hl : N2 l2 = some (.lst [.ref t12, .ref t13, .ref t14, .ref t15, .ref t16, .ref t17, .ref t18, .ref t19, .ref t20, .ref t21, .ref t22, .ref t23, .ref t24]) := hl2
    clear hl2 hm s1 s2
    exact kk l2 _ [t12, t13, t14, t15, t16, t17, t18, t19, t20, t21, t22, t23, t24] sA hl rfl pr
end
end IC
namespace IC
open PySem L2 TL
theorem inV_nat (k : Nat) (l : List Nat) : inV (.int k) (l.map fun c : Nat => V.int (c : Int)) = decide (k ∈ l) := by
  unfold inV
  rw [Bool.eq_iff_iff, List.any_eq_true, decide_eq_true_iff]
  constructor
  · rintro ⟨y, hy, e⟩
    obtain ⟨c, hc, rfl⟩ := List.mem_map.mp hy
    have e : (c : Int) = (k : Int) := by simpa [eqV] using e
    have e : c = k := by omega
    rw [← e]
    exact hc
  · intro h
    exact ⟨_, List.mem_map.mpr ⟨k, h, rfl⟩, by simp [eqV]⟩
theorem int_nat {k c : Nat} (h : decide (V.int (k : Int) = V.int (c : Int)) = true) : k = c := by
  have e := of_decide_eq_true h
  injection e with e
  omega
theorem int_ne {k c : Nat} (h : ¬ decide (V.int (k : Int) = V.int (c : Int)) = true) : k ≠ c := fun e => h (decide_eq_true (by rw [e]))
@[irreducible] def spFields (Cl : Nat → Addr) : Sp := fun vs H Q _ => ∃ (a : Addr) (k : Nat) (v u : V), vs = [.ref a, .int k] ∧ k < 25 ∧ XV H a (Cl k) (fsK k v u) ∧ ∀ (x : V) (H' : Hp), Same H H' → Due H' k v u x → Q x H'
section
variable {P : Program} {w : World} {K : PySem.W.Frag} {mg : Str → Option Value} {base : Heap} {Cl : Nat → Addr} {CI : Addr}
theorem ok_fields {f : Addr} {fd : FuncData} (F : Fun K "_law_fields" "_law_fields" s_law_fields f fd) (T : Bn mg) (L : E88 P w K mg base Cl CI) : FnOk P w K mg base CX0 1 f fd ["e", "k"] (spFields Cl) := by
  refine F.ok sc_law_fields (fun vs H Q E h => ?_) (fun cdv A outer s H vs Q E hr h => ?_)
  · unfold spFields at h
    obtain ⟨a, k, v, u, rfl, _⟩ := h
    rfl
  · unfold spFields at h
    obtain ⟨a, k, v, u, rfl, hk, xv, kk⟩ := h
    refine ⟨_, (pss_cons (ps_if (pt_cmpR op_eq (pv 1) pe_int (nomark _))
  (pss_one (ps_ret (pe_fv (pv 0))))
  pss_nil)
  (pss_cons (ps_if (pt_cmpR op_eq (pv 1) pe_int (nomark _))
  (pss_one (ps_ret (pe_fv (pv 0))))
  pss_nil)
  (pss_cons (ps_if (pt_cmpR op_in_seq (pv 1) (pe_lst (pa_cons pe_int (pa_cons pe_int (pa_cons pe_int pa_nil)))) (by rfl))
  (pss_one (ps_ret (pe_fv (pv 0))))
  pss_nil)
  (pss_cons (ps_if (pt_cmpR op_in_seq (pv 1) (pe_lst (pa_cons pe_int (pa_cons pe_int pa_nil))) (by rfl))
  (pss_one (ps_ret (pe_fv (pv 0))))
  pss_nil)
  (pss_cons (ps_if (pt_cmpR op_in_seq (pv 1) (pe_lst (pa_cons pe_int (pa_cons pe_int (pa_cons pe_int pa_nil)))) (by rfl))
  (pss_one (ps_ret (pe_fv (pv 0))))
  pss_nil)
  (pss_cons (ps_if (pt_cmpR op_in_seq (pv 1) (pe_lst (pa_cons pe_int (pa_cons pe_int pa_nil))) (by rfl))
  (pss_one (ps_ret (pe_fv (pv 0))))
  pss_nil)
  (pss_cons (ps_if (pt_cmpR op_in_seq (pv 1) (pe_lst (pa_cons pe_int (pa_cons pe_int (pa_cons pe_int (pa_cons pe_int (pa_cons pe_int pa_nil)))))) (by rfl))
  (pss_one (ps_ret (pe_fv (pv 0))))
  pss_nil)
  (pss_cons (ps_if (pt_cmpR op_eq (pv 1) pe_int (nomark _))
  (pss_one (ps_ret (pe_fv (pv 0))))
  pss_nil)
  (pss_cons (ps_if (pt_cmpR op_eq (pv 1) pe_int (nomark _))
  (pss_one (ps_ret (pe_fv (pv 0))))
  pss_nil)
  (pss_cons (ps_if (pt_cmpR op_eq (pv 1) pe_int (nomark _))
  (pss_one (ps_ret (pe_fv (pv 0))))
  pss_nil)
  (pss_cons (ps_if (pt_cmpR op_eq (pv 1) pe_int (nomark _))
  (pss_one (ps_ret (pe_fv (pv 0))))
  pss_nil)
  (pss_cons (ps_if (pt_cmpR op_eq (pv 1) pe_int (nomark _))
  (pss_one (ps_ret (pe_tup (pa_cons (pe_fv (pv 0)) (pa_cons (pe_fv (pv 0)) pa_nil)))))
  pss_nil)
  (pss_one (ps_ret (pe_ifExp (pt_cmpR op_eq (pv 1) pe_int (nomark _)) (pe_fv (pv 0)) pe_non))))))))))))))), ?_⟩
    have sA : Same H H := fun _ _ e => e
    refine ⟨_, rfl, rfl, _, rfl, ite2 (fun c0 => ?_) (fun c0 => ?_)⟩
    · obtain rfl : k = 0 := int_nat c0
      exact ⟨_, rfl, a, Cl 0, _, v, rfl, L.ec 0 hk, L.no 0 hk _ (by decide), xv, by rfl, kk v _ sA rfl⟩
    have z0 : k ≠ 0 := int_ne c0
    clear c0
    refine ⟨_, rfl, rfl, _, rfl, ite2 (fun c0 => ?_) (fun c0 => ?_)⟩
    · obtain rfl : k = 1 := int_nat c0
      exact ⟨_, rfl, a, Cl 1, _, v, rfl, L.ec 1 hk, L.no 1 hk _ (by decide), xv, by rfl, kk v _ sA rfl⟩
    have z1 : k ≠ 1 := int_ne c0
    clear c0
    refine ⟨_, rfl, (by show 3 ≤ sizeLine; decide), fun l2 nl => ?_⟩
    have s1 := Same.new (o := .lst [.int 2, .int 10, .int 19]) nl
    have h1 := (upd_same : upd H l2 (.lst [.int 2, .int 10, .int 19]) l2 = _)
    generalize upd H l2 (.lst [.int 2, .int 10, .int 19]) = G2 at s1 h1 ⊢
    clear nl
    have sA := sA.trans s1
    have xv := xv.same s1
    clear s1
    refine ⟨l2, ([2, 10, 19] : List Nat).map fun c : Nat => V.int (c : Int), rfl, .inl (SqL.of h1), rfl, rfl, ?_⟩
    show ∃ b, V.bl (inV (.int k) (([2, 10, 19] : List Nat).map fun c : Nat => V.int (c : Int))) = V.bl b ∧ _
    rw [inV_nat]
    refine ⟨_, rfl, ite2 (fun c0 => ?_) (fun c0 => ?_)⟩
    · have c0 := of_decide_eq_true c0
      simp only [List.mem_cons, List.not_mem_nil, or_false] at c0
      rcases c0 with rfl | rfl | rfl
      · exact ⟨_, rfl, a, Cl 2, _, v, rfl, L.ec 2 hk, L.no 2 hk _ (by decide), xv, by rfl, kk v _ sA rfl⟩
      · exact ⟨_, rfl, a, Cl 10, _, v, rfl, L.ec 10 hk, L.no 10 hk _ (by decide), xv, by rfl, kk v _ sA rfl⟩
      · exact ⟨_, rfl, a, Cl 19, _, v, rfl, L.ec 19 hk, L.no 19 hk _ (by decide), xv, by rfl, kk v _ sA rfl⟩
    have c0 : k ∉ ([2, 10, 19] : List Nat) := fun m => c0 (decide_eq_true m)
    simp only [List.mem_cons, List.not_mem_nil, or_false, not_or] at c0
    obtain ⟨z2, z10, z19⟩ := c0
    clear h1
    refine ⟨_, rfl, (by show 2 ≤ sizeLine; decide), fun l3 nl => ?_⟩
    have s1 := Same.new (o := .lst [.int 3, .int 18]) nl
    have h1 := (upd_same : upd G2 l3 (.lst [.int 3, .int 18]) l3 = _)
    generalize upd G2 l3 (.lst [.int 3, .int 18]) = G3 at s1 h1 ⊢
    clear nl
    have sA := sA.trans s1
    have xv := xv.same s1
    clear s1
    refine ⟨l3, ([3, 18] : List Nat).map fun c : Nat => V.int (c : Int), rfl, .inl (SqL.of h1), rfl, rfl, ?_⟩
    show ∃ b, V.bl (inV (.int k) (([3, 18] : List Nat).map fun c : Nat => V.int (c : Int))) = V.bl b ∧ _
    rw [inV_nat]
    refine ⟨_, rfl, ite2 (fun c0 => ?_) (fun c0 => ?_)⟩
    · have c0 := of_decide_eq_true c0
      simp only [List.mem_cons, List.not_mem_nil, or_false] at c0
      rcases c0 with rfl | rfl
      · exact ⟨_, rfl, a, Cl 3, _, v, rfl, L.ec 3 hk, L.no 3 hk _ (by decide), xv, by rfl, kk v _ sA rfl⟩
      · exact ⟨_, rfl, a, Cl 18, _, v, rfl, L.ec 18 hk, L.no 18 hk _ (by decide), xv, by rfl, kk v _ sA rfl⟩
    have c0 : k ∉ ([3, 18] : List Nat) := fun m => c0 (decide_eq_true m)
    simp only [List.mem_cons, List.not_mem_nil, or_false, not_or] at c0
    obtain ⟨z3, z18⟩ := c0
    clear h1
    refine ⟨_, rfl, (by show 3 ≤ sizeLine; decide), fun l4 nl => ?_⟩
    have s1 := Same.new (o := .lst [.int 4, .int 16, .int 24]) nl
    have h1 := (upd_same : upd G3 l4 (.lst [.int 4, .int 16, .int 24]) l4 = _)
    generalize upd G3 l4 (.lst [.int 4, .int 16, .int 24]) = G4 at s1 h1 ⊢
    clear nl
    have sA := sA.trans s1
    have xv := xv.same s1
    clear s1
    refine ⟨l4, ([4, 16, 24] : List Nat).map fun c : Nat => V.int (c : Int), rfl, .inl (SqL.of h1), rfl, rfl, ?_⟩
    show ∃ b, V.bl (inV (.int k) (([4, 16, 24] : List Nat).map fun c : Nat => V.int (c : Int))) = V.bl b ∧ _
    rw [inV_nat]
    refine ⟨_, rfl, ite2 (fun c0 => ?_) (fun c0 => ?_)⟩
    · have c0 := of_decide_eq_true c0
      simp only [List.mem_cons, List.not_mem_nil, or_false] at c0
      rcases c0 with rfl | rfl | rfl
      · exact ⟨_, rfl, a, Cl 4, _, v, rfl, L.ec 4 hk, L.no 4 hk _ (by decide), xv, by rfl, kk v _ sA rfl⟩
      · exact ⟨_, rfl, a, Cl 16, _, v, rfl, L.ec 16 hk, L.no 16 hk _ (by decide), xv, by rfl, kk v _ sA rfl⟩
      · exact ⟨_, rfl, a, Cl 24, _, v, rfl, L.ec 24 hk, L.no 24 hk _ (by decide), xv, by rfl, kk v _ sA rfl⟩
    have c0 : k ∉ ([4, 16, 24] : List Nat) := fun m => c0 (decide_eq_true m)
    simp only [List.mem_cons, List.not_mem_nil, or_false, not_or] at c0
    obtain ⟨z4, z16, z24⟩ := c0
    clear h1
    refine ⟨_, rfl, (by show 2 ≤ sizeLine; decide), fun l5 nl => ?_⟩
    have s1 := Same.new (o := .lst [.int 5, .int 9]) nl
    have h1 := (upd_same : upd G4 l5 (.lst [.int 5, .int 9]) l5 = _)
    generalize upd G4 l5 (.lst [.int 5, .int 9]) = G5 at s1 h1 ⊢
    clear nl
    have sA := sA.trans s1
    have xv := xv.same s1
    clear s1
    refine ⟨l5, ([5, 9] : List Nat).map fun c : Nat => V.int (c : Int), rfl, .inl (SqL.of h1), rfl, rfl, ?_⟩
    show ∃ b, V.bl (inV (.int k) (([5, 9] : List Nat).map fun c : Nat => V.int (c : Int))) = V.bl b ∧ _
    rw [inV_nat]
    refine ⟨_, rfl, ite2 (fun c0 => ?_) (fun c0 => ?_)⟩
    · have c0 := of_decide_eq_true c0
      simp only [List.mem_cons, List.not_mem_nil, or_false] at c0
      rcases c0 with rfl | rfl
      · exact ⟨_, rfl, a, Cl 5, _, v, rfl, L.ec 5 hk, L.no 5 hk _ (by decide), xv, by rfl, kk v _ sA rfl⟩
      · exact ⟨_, rfl, a, Cl 9, _, v, rfl, L.ec 9 hk, L.no 9 hk _ (by decide), xv, by rfl, kk v _ sA rfl⟩
    have c0 : k ∉ ([5, 9] : List Nat) := fun m => c0 (decide_eq_true m)
    simp only [List.mem_cons, List.not_mem_nil, or_false, not_or] at c0
    obtain ⟨z5, z9⟩ := c0
    clear h1
    refine ⟨_, rfl, (by show 5 ≤ sizeLine; decide), fun l6 nl => ?_⟩
    have s1 := Same.new (o := .lst [.int 6, .int 8, .int 15, .int 22, .int 23]) nl
    have h1 := (upd_same : upd G5 l6 (.lst [.int 6, .int 8, .int 15, .int 22, .int 23]) l6 = _)
    generalize upd G5 l6 (.lst [.int 6, .int 8, .int 15, .int 22, .int 23]) = G6 at s1 h1 ⊢
    clear nl
    have sA := sA.trans s1
    have xv := xv.same s1
    clear s1
    refine ⟨l6, ([6, 8, 15, 22, 23] : List Nat).map fun c : Nat => V.int (c : Int), rfl, .inl (SqL.of h1), rfl, rfl, ?_⟩
    show ∃ b, V.bl (inV (.int k) (([6, 8, 15, 22, 23] : List Nat).map fun c : Nat => V.int (c : Int))) = V.bl b ∧ _
    rw [inV_nat]
    refine ⟨_, rfl, ite2 (fun c0 => ?_) (fun c0 => ?_)⟩
    · have c0 := of_decide_eq_true c0
      simp only [List.mem_cons, List.not_mem_nil, or_false] at c0
      rcases c0 with rfl | rfl | rfl | rfl | rfl
      · exact ⟨_, rfl, a, Cl 6, _, v, rfl, L.ec 6 hk, L.no 6 hk _ (by decide), xv, by rfl, kk v _ sA rfl⟩
      · exact ⟨_, rfl, a, Cl 8, _, v, rfl, L.ec 8 hk, L.no 8 hk _ (by decide), xv, by rfl, kk v _ sA rfl⟩
      · exact ⟨_, rfl, a, Cl 15, _, v, rfl, L.ec 15 hk, L.no 15 hk _ (by decide), xv, by rfl, kk v _ sA rfl⟩
      · exact ⟨_, rfl, a, Cl 22, _, v, rfl, L.ec 22 hk, L.no 22 hk _ (by decide), xv, by rfl, kk v _ sA rfl⟩
      · exact ⟨_, rfl, a, Cl 23, _, v, rfl, L.ec 23 hk, L.no 23 hk _ (by decide), xv, by rfl, kk v _ sA rfl⟩
    have c0 : k ∉ ([6, 8, 15, 22, 23] : List Nat) := fun m => c0 (decide_eq_true m)
    simp only [List.mem_cons, List.not_mem_nil, or_false, not_or] at c0
    obtain ⟨z6, z8, z15, z22, z23⟩ := c0
    clear h1
    refine ⟨_, rfl, rfl, _, rfl, ite2 (fun c0 => ?_) (fun c0 => ?_)⟩
    · obtain rfl : k = 7 := int_nat c0
      exact ⟨_, rfl, a, Cl 7, _, v, rfl, L.ec 7 hk, L.no 7 hk _ (by decide), xv, by rfl, kk v _ sA rfl⟩
    have z7 : k ≠ 7 := int_ne c0
    clear c0
    refine ⟨_, rfl, rfl, _, rfl, ite2 (fun c0 => ?_) (fun c0 => ?_)⟩
    · obtain rfl : k = 12 := int_nat c0
      exact ⟨_, rfl, a, Cl 12, _, v, rfl, L.ec 12 hk, L.no 12 hk _ (by decide), xv, by rfl, kk v _ sA rfl⟩
    have z12 : k ≠ 12 := int_ne c0
    clear c0
    refine ⟨_, rfl, rfl, _, rfl, ite2 (fun c0 => ?_) (fun c0 => ?_)⟩
    · obtain rfl : k = 13 := int_nat c0
      exact ⟨_, rfl, a, Cl 13, _, v, rfl, L.ec 13 hk, L.no 13 hk _ (by decide), xv, by rfl, kk v _ sA rfl⟩
    have z13 : k ≠ 13 := int_ne c0
    clear c0
    refine ⟨_, rfl, rfl, _, rfl, ite2 (fun c0 => ?_) (fun c0 => ?_)⟩
    · obtain rfl : k = 14 := int_nat c0
      exact ⟨_, rfl, a, Cl 14, _, v, rfl, L.ec 14 hk, L.no 14 hk _ (by decide), xv, by rfl, kk v _ sA rfl⟩
    have z14 : k ≠ 14 := int_ne c0
    clear c0
    refine ⟨_, rfl, rfl, _, rfl, ite2 (fun c0 => ?_) (fun c0 => ?_)⟩
    · obtain rfl : k = 17 := int_nat c0
      refine ⟨_, rfl, a, Cl 17, _, v, rfl, L.ec 17 hk, L.no 17 hk _ (by decide), xv, by rfl, ?_⟩
      refine ⟨_, rfl, a, Cl 17, _, u, rfl, L.ec 17 hk, L.no 17 hk _ (by decide), xv, by rfl, ?_⟩
      exact ⟨(by show 2 ≤ sizeLine; decide), fun t nt => kk _ _ (sA.trans (Same.new nt)) ⟨t, rfl, upd_same⟩⟩
    have z17 : k ≠ 17 := int_ne c0
    clear c0
    refine ⟨_, rfl, rfl, _, rfl, ite2 (fun c0 => ?_) (fun c0 => ?_)⟩
    · obtain rfl : k = 21 := int_nat c0
      exact ⟨_, rfl, a, Cl 21, _, v, rfl, L.ec 21 hk, L.no 21 hk _ (by decide), xv, by rfl, kk v _ sA rfl⟩
    have z21 : k ≠ 21 := int_ne c0
    clear c0
    obtain rfl | rfl : k = 11 ∨ k = 20 := by omega
    · exact kk .non _ sA rfl
    · exact kk .non _ sA rfl
end
end IC
namespace IC
open PySem L2 TL
section
variable {K : PySem.W.Frag} {Cl : Nat → Addr} {H : Hp} {Q : VK} {E : XK} {p a : Addr} {m : Int} {k k0 n : Nat} {v u : V} {fs : List (Str × V)}
theorem th_of (po : PoolAt H p m) (hm : m ≤ 1000000) (kq : ∀ (H' : Hp) (v : V) (d : PyData), Kp [p] H H' → PoolAt H' p (m + 20) → Thg K (del H' p) v d → Q v H') : spThing K [.ref p] H Q E := by
  unfold spThing
  exact ⟨p, m, rfl, po, hm, kq⟩
theorem cls_of (hk : k < 25) (xv : XV H a (Cl k) fs) (kq : ∀ (l : Addr) (H' : Hp), Same H H' → H l = none → H' l = some (.lst ((List.range 25).map fun j => V.bl (decide (j = k)))) → Q (.ref l) H') : spClasses Cl [.ref a] H Q E := by
  unfold spClasses
  exact ⟨a, k, fs, rfl, hk, xv, kq⟩
theorem prs_of (kq : ∀ (l : Addr) (H' : Hp) (ts : List Addr), Same H H' → H' l = some (.lst (ts.map V.ref)) → ts.length = n → Prs Cl H' v u k0 ts → Q (.ref l) H') : spPairs Cl k0 n [v, u] H Q E := by
  unfold spPairs
  exact ⟨v, u, rfl, kq⟩
theorem fld_of (hk : k < 25) (xv : XV H a (Cl k) (fsK k v u)) (kq : ∀ (x : V) (H' : Hp), Same H H' → Due H' k v u x → Q x H') : spFields Cl [.ref a, .int k] H Q E := by
  unfold spFields
  exact ⟨a, k, v, u, rfl, hk, xv, kq⟩
theorem del_kp {H H' : Hp} {p : Addr} (kp : Kp [p] H H') : Same (del H p) (del H' p) := fun y o e => by
  by_cases h : y = p
  · rw [h, del_same] at e
    cases e
  · rw [del_ne h] at e ⊢
    exact kp y o e (by simpa using h)
theorem del_back {H : Hp} {p : Addr} : Same (del H p) H := fun y o e => by
  by_cases h : y = p
  · rw [h, del_same] at e
    cases e
  · rw [del_ne h] at e
    exact e
theorem lay_bools : ∀ l : List Bool, PyData.canLayAll0 (l.map PyData.bool) = true
  | [] => by simp [PyData.canLayAll0]
  | b :: l => by simp [PyData.canLayAll0, PyData.canLay0, lay_bools l]
theorem depth_bools : ∀ l : List Bool, PyData.depthAll (l.map PyData.bool) = 0
  | [] => by simp [PyData.depthAll]
  | b :: l => by simp [PyData.depthAll, PyData.depth, depth_bools l]
theorem shp_bools (l : List Bool) : SeqAt.shaped (.list (l.map PyData.bool)) = true := shp (by simp only [PyData.canLay0]; exact lay_bools l) (by simp only [PyData.depth, depth_bools]; decide)
theorem dp_bools {K : PySem.W.Frag} {H : Hp} : ∀ l : List Bool, DpAll K H (l.map V.bl) (l.map PyData.bool)
  | [] => .nil
  | b :: l => .cons (.bl b) (dp_bools l)
theorem eqv_me {d : PyData} (h : SeqAt.shaped d = true) : PyData.eqv d d = true := SeqAt.eqv_refl d (SeqAt.canLay_of_shaped h)
def w5 : List Str := ["doomed", "missing", "present", "refused", "waits"]
def k5 : List Nat := [7, 10, 19, 20, 24]
theorem w5_ok {i c : Nat} (v u : V) (h : k5[i]? = some c) : c < 25 ∧ ∃ w, w5[i]? = some w ∧ (fsK c v u).lookup ("word" : Str) = some (V.str w) := by
  match i, h with
  | 0, h => cases h; exact ⟨by decide, _, rfl, rfl⟩
  | 1, h => cases h; exact ⟨by decide, _, rfl, rfl⟩
  | 2, h => cases h; exact ⟨by decide, _, rfl, rfl⟩
  | 3, h => cases h; exact ⟨by decide, _, rfl, rfl⟩
  | 4, h => cases h; exact ⟨by decide, _, rfl, rfl⟩
  | _ + 5, h => cases h
/-- what is due, as data -/
def dueD : Nat → PyData → PyData → PyData
  | 11, _, _ => .none
  | 17, d, e => .tuple [d, e]
  | 20, _, _ => .none
  | _, d, _ => d
theorem Due.dp {k : Nat} {v u x : V} {d e : PyData} (h : Due H k v u x) (hv : Thg K H v d) (hu : Thg K H u e) : Dp K H x (dueD k d e) ∧ (dueD k d e).showable = true ∧ (dueD k d e).hasDict = false ∧ (dueD k d e).depth ≤ 20 ∧ (dueD k d e).shown.length ≤ sizeLine := by
  have one : ∀ {y : V} {c : PyData}, Thg K H y c → Dp K H y c ∧ c.showable = true ∧ c.hasDict = false ∧ c.depth ≤ 20 ∧ c.shown.length ≤ sizeLine := fun t => by
    obtain ⟨f1, f2, f3⟩ := t.fi.show (by decide) (by decide)
    exact ⟨t.dp, f1, t.nd, f2, f3⟩
  unfold Due at h
  split at h
  · subst h
    exact one th_none
  · obtain ⟨t, rfl, ht⟩ := h
    have f := (FineAll.cons hv.fi (FineAll.cons hu.fi (fine_nil.up (Nat.le_refl _) (Nat.zero_le 2)))).tup
    obtain ⟨f1, f2, f3⟩ := f.show (by decide) (by decide)
    refine ⟨.tup (SqT.of ht) (.cons hv.dp (.cons hu.dp .nil)), f1, ?_, f2, f3⟩
    show PyData.hasDictAll [d, e] = false
    simp [PyData.hasDictAll, hv.nd, hu.nd]
  · subst h
    exact one th_none
  · subst h
    unfold dueD
    split <;> first | exact one hv | (exfalso; simp_all)
end
section
variable {P : Program} {w : World} {K : PySem.W.Frag} {mg : Str → Option Value} {base : Heap} {Cl : Nat → Addr} {CI : Addr}
theorem ok_law88 {f : Addr} {fd : FuncData} (F : Fun K "law" "law" s_law f fd) (T : Bn mg) (L : E88 P w K mg base Cl CI) (D_law_pool : Df P w K mg base 1 "_law_pool" ["script", "at"] (spPool K)) (D_law_thing : Df P w K mg base 3 "_law_thing" ["pool"] (spThing K)) (D_law_classes : Df P w K mg base 2 "_law_classes" ["e"] (spClasses Cl))
    (D_law_first : Df P w K mg base 3 "_law_first" ["one", "two"] (spPairs Cl 0 12)) (D_law_second : Df P w K mg base 3 "_law_second" ["one", "two"] (spPairs Cl 12 13)) (D_law_fields : Df P w K mg base 1 "_law_fields" ["e", "k"] (spFields Cl)) : FnG P w K mg base 8 f fd ["script"] (spLaw K) := by
  refine IC.Fun.okG F sc_law (fun vs H Q E h => ?_) (fun cdv A outer s H vs Q E hgd hr h => ?_)
  · obtain ⟨a, ns, rfl, _⟩ := h
    rfl
  · obtain ⟨a, ns, rfl, hS, hlen, k⟩ := h
    refine ⟨_, (pss_cons (ps_for PassesOwn.never rfl (pi_range1 rfl T.range (pa_cons (pe_callB (call_max2 rfl) (by rfl) T.max PyProof.Rows.boot_max (pa_cons pe_int (pa_cons (pe_callB (call_min2 rfl) (by rfl) T.min PyProof.Rows.boot_min (pa_cons pe_int (pa_cons (pe_callB call_len_seq (by rfl) T.len PySem.boot_len (pa_cons (pv 0) pa_nil)) pa_nil))) pa_nil))) pa_nil)) (pg_name (i := 1) sc_law.nd rfl (Or.inl rfl))
  (pss_cons (ps_set (i := 2) sc_law.nd rfl (Or.inl rfl) (pe_df D_law_pool hr (by decide) rfl (pa_cons (pv 0) (pa_cons (pv 1) pa_nil))))
  (pss_cons (ps_par (i := 3) (j := 4) (by rfl) sc_law.nd rfl rfl (by decide) rfl rfl (pa_cons (pe_df D_law_thing hr (by decide) rfl (pa_cons (pv 2) pa_nil)) (pa_cons (pe_df D_law_thing hr (by decide) rfl (pa_cons (pv 2) pa_nil)) pa_nil)) (by rfl))
  (pss_cons (ps_set (i := 5) sc_law.nd rfl (Or.inr rfl) (pe_op op_cat (pe_df D_law_first hr (by decide) rfl (pa_cons (pv 3) (pa_cons (pv 4) pa_nil))) (pe_df D_law_second hr (by decide) rfl (pa_cons (pv 3) (pa_cons (pv 4) pa_nil)))))
  (pss_cons (ps_for PassesOwn.never rfl (pi_range1 rfl T.range (pa_cons pe_int pa_nil)) (pg_name (i := 6) sc_law.nd rfl (Or.inr rfl))
  (pss_cons (ps_asg (pe_ix ix_list (pv 5) (pv 6) (fun _ _ => rfl)) (pg_tup rfl (pgs_cons (pg_name (i := 8) sc_law.nd rfl (Or.inl rfl)) (pgs_cons (pg_name (i := 9) sc_law.nd rfl (Or.inl rfl)) pgs_nil))))
  (pss_cons (ps_if (PW.pt (pw_or (pt_not (pt_val (pe_callB call_isE (by rfl) T.isi PyProof.Rows.boot_isinstance (pa_cons (pv 8) (pa_cons (pe_glob (v := .ref _) rfl L.gI rfl) pa_nil))))) (pw_or1 (pt_not (pt_val (pe_callB call_isE (by rfl) T.isi PyProof.Rows.boot_isinstance (pa_cons (pv 8) (pa_cons (pe_bltn (v := .ty "ValueError") (by rfl) T.VE (by decide +kernel) rfl) pa_nil))))))))
  (pss_one (ps_ret pe_bl))
  pss_nil)
  (pss_one (ps_if (PW.pt (pw_or (pt_cmpR (op_neD hr.units) (pe_df D_law_classes hr (by decide) rfl (pa_cons (pv 8) pa_nil)) (pe_lc (own := [("j", 10)]) (g := gName 10) (tt := tYes) rfl sc_law.nd (pi_range1 rfl T.range (pa_cons pe_int pa_nil)) (blkOk_by (N := ["script", "at", "pool", "one", "two", "pairs", "k", "words", "e", "due", "j"]) (sc := defScope s_law) (by decide +kernel)) (fun _ _ _ _ _ => pg_name (i := 10) sc_law.nd rfl (Or.inl rfl)) (fun _ _ _ _ _ => pts_nil) (fun _ _ _ _ _ => (pe_cmpR op_eq (pv 10) (pv 6) (nomark _)))) (nomark _)) (pw_or1 (pt_cmpR op_ne (pe_callB (call_reprA hgd hr.units) (by rfl) T.repr (by decide +kernel) (pa_cons (pe_df D_law_fields hr (by decide) rfl (pa_cons (pv 8) (pa_cons (pv 6) pa_nil))) pa_nil)) (pe_callB (call_reprA hgd hr.units) (by rfl) T.repr (by decide +kernel) (pa_cons (pv 9) pa_nil)) (nomark _)))))
  (pss_one (ps_ret pe_bl))
  pss_nil)))))
  (pss_cons (ps_setLc (i := 7) (own := [("k", 6)]) (g := gName 6) (tt := tYes) rfl sc_law.nd rfl rfl rfl (pi_list (pe_lst (pa_cons pe_int (pa_cons pe_int (pa_cons pe_int (pa_cons pe_int (pa_cons pe_int pa_nil))))))) (blkOk_by (N := ["script", "at", "pool", "one", "two", "pairs", "k", "words", "e", "due", "j"]) (sc := defScope s_law) (by decide +kernel)) (fun _ _ _ _ _ => pg_name (i := 6) sc_law.nd rfl (Or.inl rfl)) (fun _ _ _ _ _ => pts_nil) (fun _ _ _ _ _ => (show PE _ _ (tFv K "word" _) from pe_fv (pe_ix (show IxR _ (rIxT K) from ix_tup) (pe_ix (show IxR _ (rIxL K) from ix_list) (pv 5) (pv 6) (fun _ _ => rfl)) pe_int (fun _ _ => rfl)))))
  (pss_cons (ps_if (pt_cmpR (op_neD hr.units) (pv 7) (pe_lst (pa_cons pe_str (pa_cons pe_str (pa_cons pe_str (pa_cons pe_str (pa_cons pe_str pa_nil)))))) (nomark _))
  (pss_one (ps_ret pe_bl))
  pss_nil)
  (pss_one (ps_if (PW.pt (pw_or (pt_cmpR (op_neD hr.units) (pe_fv (pe_evK2 L.e17 hr (by decide) rfl (pk_cons (pv 4) (pk_cons (pv 3) pk_nil)))) (pv 3) (nomark _)) (pw_or1 (pt_cmpR (op_neD hr.units) (pe_fv (pe_evK L.k24 hr (by decide) rfl (pk_cons (pv 3) pk_nil))) (pv 3) (nomark _)))))
  (pss_one (ps_ret pe_bl))
  pss_nil)))))))))
  (pss_one (ps_ret pe_bl))), ?_⟩
    have hlm : (ns.map V.int).length = ns.length := List.length_map ..
    obtain ⟨N, hN, hN2⟩ : ∃ N : Int, N = (if (if ((ns.map V.int).length : Int) < 8 then ((ns.map V.int).length : Int) else 8) > 1 then (if ((ns.map V.int).length : Int) < 8 then ((ns.map V.int).length : Int) else 8) else 1) ∧ 0 ≤ N ∧ N ≤ 8 := by
      refine ⟨_, rfl, ?_, ?_⟩ <;> (repeat' split) <;> omega
    refine ⟨_, rfl, a, _, rfl, .inl hS, _, _, rfl, _, _, rfl, N, (by rw [hN]), by omega, by omega, for_range (lo := 0) (n := N.toNat) (fun i σ H1 => ∃ v1 v2 v3 v4 v5 v6 v7 v8 v9 v10, σ = [some (.ref a), v1, v2, v3, v4, v5, v6, v7, v8, v9, v10] ∧ Same H H1) ⟨_, _, _, _, _, _, _, _, _, _, rfl, fun _ _ e => e⟩ ?_ ?_⟩
    · rintro i σ H1 hi ⟨v1, v2, v3, v4, v5, v6, v7, v8, v9, v10, rfl, s1⟩
      refine ⟨_, rfl, _, rfl, a, ns, i, (by rw [Int.zero_add]; rfl), s1.seq hS, by omega, fun p o hp hp1 => ?_⟩
      refine ⟨_, rfl, th_of hp1 (by decide) fun H2 v dv kp2 po2 tv => ?_⟩
      refine ⟨_, rfl, th_of po2 (by decide) fun H3 u du kp3 po3 tu => ?_⟩
      refine ⟨_, _, rfl, ?_⟩
      have tv := (tv.mv (del_kp kp3)).mv del_back
      have tu := tu.mv del_back
      have s3 : Same H1 H3 := fun y e h => by
        have n : y ≠ p := ne_of_none h hp
        exact kp3 y e (kp2 y e (by rw [upd_ne n]; exact h) (by simpa using n)) (by simpa using n)
      clear po2 po3 kp2 kp3 hp1
      refine ⟨_, rfl, _, rfl, prs_of fun l1 H4 ts1 s4 hl1 len1 pr1 => ?_⟩
      refine ⟨_, rfl, _, rfl, prs_of fun l2 H5 ts2 s5 hl2 len2 pr2 => ?_⟩
      refine ⟨l1, l2, ts1.map V.ref, ts2.map V.ref, rfl, rfl, s5 _ _ hl1, hl2, (by rw [List.length_map, List.length_map, len1, len2]; decide), fun lp nlp => ?_⟩
      have s6 := Same.new (o := .lst (ts1.map V.ref ++ ts2.map V.ref)) nlp
      have hlp := (upd_same : upd H5 lp (.lst (ts1.map V.ref ++ ts2.map V.ref)) lp = _)
      generalize upd H5 lp (.lst (ts1.map V.ref ++ ts2.map V.ref)) = H6 at s6 hlp ⊢
      rw [← List.map_append] at hlp
      have pr := (Prs.app (pr1.same s5) (by rw [len1]; exact pr2)).same s6
      have len : (ts1 ++ ts2).length = 25 := by rw [List.length_append, len1, len2]
      generalize ts1 ++ ts2 = ts at hlp pr len
      have s36 := s4.trans (s5.trans s6)
      have tv := tv.mv s36
      have tu := tu.mv s36
      have s16 := s3.trans s36
      clear s3 s36 s4 s5 s6 hl1 hl2 pr1 pr2 nlp len1 len2
      refine ⟨25, rfl, by decide, by decide, for_range (lo := 0) (n := 25) (fun j σ H7 => ∃ w6 w7 w8 w9 w10, σ = [some (.ref a), some (.int (0 + (i : Int))), some (.ref p), some v, some u, some (.ref lp), w6, w7, w8, w9, w10] ∧ Same H6 H7) ⟨_, _, _, _, _, rfl, fun _ _ e => e⟩ ?_ ?_⟩
      · rintro j σ H7 hj ⟨w6, w7, w8, w9, w10, rfl, s7⟩
        have hj : j < 25 := hj
        have ht : ts[j]? = some ts[j] := List.getElem?_eq_getElem (by omega)
        have pj := (pr.get ht).same s7
        rw [Nat.zero_add] at pj
        generalize ts[j] = t at ht pj
        obtain ⟨e, x, et, xv, dx⟩ := pj
        have tv := tv.mv s7
        have tu := tu.mv s7
        refine ⟨_, rfl, _, rfl, lp, ts.map V.ref, j, .ref t, rfl, (by rw [Int.zero_add]), SqL.of (s7 _ _ hlp), atI_nat (by rw [List.getElem?_map, ht]; rfl), ?_⟩
        refine ⟨t, _, rfl, SqT.of et, rfl, _, _, rfl, _, _, rfl, rfl, ?_⟩
        refine ⟨_, rfl, e, Cl j, _, _, fsK j v u, true, rfl, .own CI, L.ec j hj, L.eg, xv, L.kI j hj, _, rfl, iteF ?_⟩
        refine ⟨_, rfl, e, Cl j, _, _, fsK j v u, true, rfl, .ty "ValueError", L.ec j hj, L.eg, xv, L.kV j hj, _, rfl, iteF ?_⟩
        refine ⟨_, rfl, cls_of hj xv fun lc H8 s8 nlc hlc => ?_⟩
        have hlc2 : H8 lc = some (.lst (((List.range 25).map fun i => decide (i = j)).map V.bl)) := by rw [List.map_map]; exact hlc
        have lc1 : ∀ {D : Addr}, H8 D = none → lc ≠ D := fun {D} n => ne_of_none hlc n
        refine ⟨25, rfl, by decide, by decide, fun D nD => ?_⟩
        refine lc_range (lo := 0) (n := 25) (fun i G => G D = some (.lst (((List.range i).map fun i => decide (i = j)).map V.bl)) ∧ Same H8 G) ⟨upd_same, Same.new nD⟩ ?_ ?_
        · rintro i' G hi' ⟨hD, sG⟩
          refine ⟨by simp [wipe], ?_⟩
          refine ⟨_, rfl, _, rfl, rfl, ?_⟩
          refine ⟨_, hD, small1000 (by rw [List.length_map, List.length_map, List.length_range]; omega), ?_, fun y o e => ?_⟩
          · rw [upd_same, List.range_succ, List.map_append, List.map_append]
            have q : decide (V.int (0 + (i' : Int)) = V.int (0 + (j : Int))) = decide (i' = j) := by
              rw [Bool.eq_iff_iff, decide_eq_true_iff, decide_eq_true_iff]
              constructor
              · intro h
                injection h with h
                omega
              · intro h
                rw [h]
            rw [q]
            rfl
          · rw [upd_ne (ne_of_none e nD)]
            exact sG y o e
        · rintro G ⟨hD, sG⟩
          refine ⟨.list (((List.range 25).map fun i => decide (i = j)).map PyData.bool), .list (((List.range 25).map fun i => decide (i = j)).map PyData.bool), .lst (SqL.of (sG _ _ hlc2)) (dp_bools _), .lst (SqL.of hD) (dp_bools _), shp_bools _, shp_bools _, ?_⟩
          rw [eqv_me (shp_bools _)]
          refine ⟨_, rfl, iteF ?_⟩
          have s9 := s8.trans sG
          refine ⟨_, rfl, _, rfl, ?_⟩
          have xv9 := xv.same s9
          have tv9 := tv.mv s9
          have tu9 := tu.mv s9
          have dx9 := dx.same s9
          have ej : V.int (0 + (j : Int)) = V.int (j : Int) := by rw [Int.zero_add]
          rw [ej]
          refine fld_of hj xv9 fun y H10 s10 dy => ?_
          have tv10 := tv9.mv s10
          have tu10 := tu9.mv s10
          obtain ⟨f1, f2, f3, f4, f5⟩ := dy.dp tv10 tu10
          obtain ⟨g1, g2, g3, g4, g5⟩ := (dx9.same s10).dp tv10 tu10
          refine ⟨y, _, rfl, f1, f2, f3, f4, f5, ?_⟩
          refine ⟨_, rfl, x, _, rfl, g1, g2, g3, g4, g5, rfl, ?_⟩
          rw [decide_eq_true rfl]
          refine ⟨_, rfl, iteF ?_⟩
          exact ⟨_, _, _, _, _, rfl, s7.trans (s9.trans s10)⟩
      · rintro σ H7 ⟨w6, w7, w8, w9, w10, rfl, s7⟩
        have hlp7 := s7 _ _ hlp
        have pr7 := pr.same s7
        have tv7 := tv.mv s7
        have tu7 := tu.mv s7
        have h17 := s16.trans s7
        refine ⟨(by show 5 ≤ sizeLine; decide), fun kl nkl => ?_⟩
        have sk := Same.new (o := .lst (k5.map fun c : Nat => V.int (c : Int))) nkl
        refine ⟨kl, rfl, ⟨_, SqL.of upd_same⟩, fun D nD => ?_⟩
        have hkl : upd H7 kl (.lst (k5.map fun c : Nat => V.int (c : Int))) kl = some (.lst (k5.map fun c : Nat => V.int (c : Int))) := upd_same
        have ek : upd H7 kl (.lst [.int 7, .int 10, .int 19, .int 20, .int 24]) = upd H7 kl (.lst (k5.map fun c : Nat => V.int (c : Int))) := rfl
        rw [ek] at nD ⊢
        generalize upd H7 kl (.lst (k5.map fun c : Nat => V.int (c : Int))) = H8 at sk hkl nD ⊢
        clear ek
        refine lc_list (K := K) (a := kl) (xs := k5.map fun c : Nat => V.int (c : Int)) (fun i G => G D = some (.lst ((w5.take i).map V.str)) ∧ Same H8 G) ⟨upd_same, Same.new nD⟩ (fun i G _ h => SqL.of (h.2 _ _ hkl)) (fun i y G hi h => ?_) (fun G h => ?_)
        · rw [List.getElem?_map] at hi
          obtain ⟨c, hc, rfl⟩ := Option.map_eq_some_iff.mp hi
          obtain ⟨hc25, wd, hwd, hlk⟩ := w5_ok v u hc
          obtain ⟨hD, sG⟩ := h
          have i5 : i < 5 := (List.getElem?_eq_some_iff.mp hwd).1
          refine ⟨by simp [wipe], ?_⟩
          have ht : ts[c]? = some ts[c] := List.getElem?_eq_getElem (by omega)
          have pj := ((pr7.get ht).same sk).same sG
          rw [Nat.zero_add] at pj
          generalize ts[c] = t at ht pj
          obtain ⟨e, x, et, xv, dx⟩ := pj
          refine ⟨_, rfl, _, rfl, lp, ts.map V.ref, c, .ref t, rfl, rfl, SqL.of (sG _ _ (sk _ _ hlp7)), atI_nat (by rw [List.getElem?_map, ht]; rfl), ?_⟩
          refine ⟨t, [.ref e, x], 0, .ref e, rfl, rfl, SqT.of et, rfl, ?_⟩
          refine ⟨e, Cl c, fsK c v u, .str wd, rfl, L.ec c hc25, L.no c hc25 _ (by decide), xv, hlk, ?_⟩
          refine ⟨_, hD, small1000 (by rw [List.length_map, List.length_take]; omega), ?_, fun y o e => ?_⟩
          · rw [upd_same, List.take_add_one, hwd, List.map_append]
            rfl
          · rw [upd_ne (ne_of_none e nD)]
            exact sG y o e
        · obtain ⟨hD, sG⟩ := h
          have hD : G D = some (.lst (w5.map V.str)) := hD
          refine ⟨_, rfl, (by show 5 ≤ sizeLine; decide), fun wl nwl => ?_⟩
          have sw := Same.new (o := .lst (w5.map V.str)) nwl
          have hwl : upd G wl (.lst (w5.map V.str)) wl = some (.lst (w5.map V.str)) := upd_same
          have ew : upd G wl (.lst [.str "doomed", .str "missing", .str "present", .str "refused", .str "waits"]) = upd G wl (.lst (w5.map V.str)) := rfl
          rw [ew]
          generalize upd G wl (.lst (w5.map V.str)) = H9 at sw hwl ⊢
          clear ew
          have shw : SeqAt.shaped (.list (w5.map PyData.str)) = true := by decide +kernel
          refine ⟨.list (w5.map PyData.str), .list (w5.map PyData.str), .lst (SqL.of (sw _ _ hD)) (dpAll_strs _), .lst (SqL.of hwl) (dpAll_strs _), shw, shw, ?_⟩
          rw [eqv_me shw]
          refine ⟨_, rfl, iteF ?_⟩
          have s79 := sk.trans (sG.trans sw)
          have tv9 := tv7.mv s79
          have tu9 := tu7.mv s79
          have h19 := h17.trans s79
          refine ⟨_, rfl, _, rfl, _, _, rfl, fun a1 H10 s10 x10 => ?_⟩
          refine ⟨a1, Cl 17, _, v, rfl, L.ec 17 (by decide), L.no 17 (by decide) _ (by decide), x10, by rfl, ?_⟩
          refine ⟨_, rfl, dv, dv, (tv9.mv s10).dp, (tv9.mv s10).dp, tv9.sh, tv9.sh, ?_⟩
          rw [eqv_me tv9.sh]
          refine ⟨_, rfl, iteF ?_⟩
          refine ⟨_, rfl, _, rfl, fun a2 H11 s11 x11 => ?_⟩
          refine ⟨a2, Cl 24, _, v, rfl, L.ec 24 (by decide), L.no 24 (by decide) _ (by decide), x11, by rfl, ?_⟩
          refine ⟨_, rfl, dv, dv, ((tv9.mv s10).mv s11).dp, ((tv9.mv s10).mv s11).dp, tv9.sh, tv9.sh, ?_⟩
          rw [eqv_me tv9.sh]
          refine ⟨_, rfl, iteF ?_⟩
          exact ⟨_, _, _, _, _, _, _, _, _, _, rfl, s1.trans (h19.trans (s10.trans s11))⟩
    · rintro σ H1 ⟨v1, v2, v3, v4, v5, v6, v7, v8, v9, v10, rfl, s1⟩
      exact k H1
end
end IC
namespace IC
open PySem L2 TL
theorem all_mk {l : PySem.W.OpenLaw} {w : World} {K : PySem.W.Frag} {h : Heap} {mg : Str → Option Value} {fa f0 f1 f2 f3 f4 f5 f6 f7 f8 f9 f10 f11 f12 f13 f14 f15 f16 f17 f18 f19 f20 f21 f22 f23 f24 f25 f26 f27 f28 f29 f30 f31 f32 : Addr} (X : K.In h) (G : h.Ns mainGlobals mg) (hfa : mg "law" = some (.ref fa))
    {od0 an0 od1 an1 od2 an2 od3 an3 od4 an4 od5 an5 od6 an6 od7 an7 od8 an8 od9 an9 od10 an10 od11 an11 od12 an12 od13 an13 od14 an14 od15 an15 od16 an16 od17 an17 od18 an18 od19 an19 od20 an20 od21 an21 od22 an22 od23 an23 od24 an24 od25 an25 od26 an26 od27 an27 od28 an28 od29 an29 od30 an30 od31 an31 od32 an32 : Option Addr} {sl0 sl1 sl2 sl3 sl4 sl5 sl6 sl7 sl8 sl9 sl10 sl11 sl12 sl13 sl14 sl15 sl16 sl17 sl18 sl19 sl20 sl21 sl22 sl23 sl24 sl25 sl26 sl27 sl28 sl29 sl30 sl31 sl32 : Array (Option Value)} {oc0 kV0 dc0 pm0 cd0 ct0 oc1 kV1 dc1 pm1 cd1 ct1 oc2 kV2 dc2 pm2 cd2 ct2 oc3 kV3 dc3 pm3 cd3 ct3 oc4 kV4 dc4 pm4 cd4 ct4 oc5 kV5 dc5 pm5 cd5 ct5 oc6 kV6 dc6 pm6 cd6 ct6 oc7 kV7 dc7 pm7 cd7 ct7 oc8 kV8 dc8 pm8 cd8 ct8 oc9 kV9 dc9 pm9 cd9 ct9 oc10 kV10 dc10 pm10 cd10 ct10 oc11 kV11 dc11 pm11 cd11 ct11 oc12 kV12 dc12 pm12 cd12 ct12 oc13 kV13 dc13 pm13 cd13 ct13 oc14 kV14 dc14 pm14 cd14 ct14 oc15 kV15 dc15 pm15 cd15 ct15 oc16 kV16 dc16 pm16 cd16 ct16 oc17 kV17 dc17 pm17 cd17 ct17 oc18 kV18 dc18 pm18 cd18 ct18 oc19 kV19 dc19 pm19 cd19 ct19 oc20 kV20 dc20 pm20 cd20 ct20 oc21 kV21 dc21 pm21 cd21 ct21 oc22 kV22 dc22 pm22 cd22 ct22 oc23 kV23 dc23 pm23 cd23 ct23 oc24 kV24 dc24 pm24 cd24 ct24 oc25 kV25 dc25 pm25 cd25 ct25 oc26 kV26 dc26 pm26 cd26 ct26 oc27 kV27 dc27 pm27 cd27 ct27 oc28 kV28 dc28 pm28 cd28 ct28 oc29 kV29 dc29 pm29 cd29 ct29 oc30 kV30 dc30 pm30 cd30 ct30 oc31 kV31 dc31 pm31 cd31 ct31 oc32 kV32 dc32 pm32 cd32 ct32 : Value} {CI : Addr} {E0 E1 E2 E3 E4 E5 E6 E7 E8 E9 E10 E11 E12 E13 E14 E15 E16 E17 E18 E19 E20 E21 E22 E23 E24 : Addr} {nm0 q0 : Str} {N0 : Addr} {bs0 : List Value} {sn0 : List Str} {su0 : List Value} {ab0 : Bool} {co0 : Option Bool} {dd0 : Option Addr} {ka0 kb0 kc0 kd0 ke0 : Option Value} {nm1 q1 : Str} {N1 : Addr} {bs1 : List Value} {sn1 : List Str} {su1 : List Value} {ab1 : Bool} {co1 : Option Bool} {dd1 : Option Addr} {ka1 kb1 kc1 kd1 ke1 : Option Value} {nm2 q2 : Str} {N2 : Addr} {bs2 : List Value} {sn2 : List Str} {su2 : List Value} {ab2 : Bool} {co2 : Option Bool} {dd2 : Option Addr} {ka2 kb2 kc2 kd2 ke2 : Option Value} {nm3 q3 : Str} {N3 : Addr} {bs3 : List Value} {sn3 : List Str} {su3 : List Value} {ab3 : Bool} {co3 : Option Bool} {dd3 : Option Addr} {ka3 kb3 kc3 kd3 ke3 : Option Value} {nm4 q4 : Str} {N4 : Addr} {bs4 : List Value} {sn4 : List Str} {su4 : List Value} {ab4 : Bool} {co4 : Option Bool} {dd4 : Option Addr} {ka4 kb4 kc4 kd4 ke4 : Option Value} {nm5 q5 : Str} {N5 : Addr} {bs5 : List Value} {sn5 : List Str} {su5 : List Value} {ab5 : Bool} {co5 : Option Bool} {dd5 : Option Addr} {ka5 kb5 kc5 kd5 ke5 : Option Value} {nm6 q6 : Str} {N6 : Addr} {bs6 : List Value} {sn6 : List Str} {su6 : List Value} {ab6 : Bool} {co6 : Option Bool} {dd6 : Option Addr} {ka6 kb6 kc6 kd6 ke6 : Option Value} {nm7 q7 : Str} {N7 : Addr} {bs7 : List Value} {sn7 : List Str} {su7 : List Value} {ab7 : Bool} {co7 : Option Bool} {dd7 : Option Addr} {ka7 kb7 kc7 kd7 ke7 : Option Value} {nm8 q8 : Str} {N8 : Addr} {bs8 : List Value} {sn8 : List Str} {su8 : List Value} {ab8 : Bool} {co8 : Option Bool} {dd8 : Option Addr} {ka8 kb8 kc8 kd8 ke8 : Option Value} {nm9 q9 : Str} {N9 : Addr} {bs9 : List Value} {sn9 : List Str} {su9 : List Value} {ab9 : Bool} {co9 : Option Bool} {dd9 : Option Addr} {ka9 kb9 kc9 kd9 ke9 : Option Value} {nm10 q10 : Str} {N10 : Addr} {bs10 : List Value} {sn10 : List Str} {su10 : List Value} {ab10 : Bool} {co10 : Option Bool} {dd10 : Option Addr} {ka10 kb10 kc10 kd10 ke10 : Option Value} {nm11 q11 : Str} {N11 : Addr} {bs11 : List Value} {sn11 : List Str} {su11 : List Value} {ab11 : Bool} {co11 : Option Bool} {dd11 : Option Addr} {ka11 kb11 kc11 kd11 ke11 : Option Value} {nm12 q12 : Str} {N12 : Addr} {bs12 : List Value} {sn12 : List Str} {su12 : List Value} {ab12 : Bool} {co12 : Option Bool} {dd12 : Option Addr} {ka12 kb12 kc12 kd12 ke12 : Option Value} {nm13 q13 : Str} {N13 : Addr} {bs13 : List Value} {sn13 : List Str} {su13 : List Value} {ab13 : Bool} {co13 : Option Bool} {dd13 : Option Addr} {ka13 kb13 kc13 kd13 ke13 : Option Value} {nm14 q14 : Str} {N14 : Addr} {bs14 : List Value} {sn14 : List Str} {su14 : List Value} {ab14 : Bool} {co14 : Option Bool} {dd14 : Option Addr} {ka14 kb14 kc14 kd14 ke14 : Option Value} {nm15 q15 : Str} {N15 : Addr} {bs15 : List Value} {sn15 : List Str} {su15 : List Value} {ab15 : Bool} {co15 : Option Bool} {dd15 : Option Addr} {ka15 kb15 kc15 kd15 ke15 : Option Value} {nm16 q16 : Str} {N16 : Addr} {bs16 : List Value} {sn16 : List Str} {su16 : List Value} {ab16 : Bool} {co16 : Option Bool} {dd16 : Option Addr} {ka16 kb16 kc16 kd16 ke16 : Option Value} {nm17 q17 : Str} {N17 : Addr} {bs17 : List Value} {sn17 : List Str} {su17 : List Value} {ab17 : Bool} {co17 : Option Bool} {dd17 : Option Addr} {ka17 kb17 kc17 kd17 ke17 : Option Value} {nm18 q18 : Str} {N18 : Addr} {bs18 : List Value} {sn18 : List Str} {su18 : List Value} {ab18 : Bool} {co18 : Option Bool} {dd18 : Option Addr} {ka18 kb18 kc18 kd18 ke18 : Option Value} {nm19 q19 : Str} {N19 : Addr} {bs19 : List Value} {sn19 : List Str} {su19 : List Value} {ab19 : Bool} {co19 : Option Bool} {dd19 : Option Addr} {ka19 kb19 kc19 kd19 ke19 : Option Value} {nm20 q20 : Str} {N20 : Addr} {bs20 : List Value} {sn20 : List Str} {su20 : List Value} {ab20 : Bool} {co20 : Option Bool} {dd20 : Option Addr} {ka20 kb20 kc20 kd20 ke20 : Option Value} {nm21 q21 : Str} {N21 : Addr} {bs21 : List Value} {sn21 : List Str} {su21 : List Value} {ab21 : Bool} {co21 : Option Bool} {dd21 : Option Addr} {ka21 kb21 kc21 kd21 ke21 : Option Value} {nm22 q22 : Str} {N22 : Addr} {bs22 : List Value} {sn22 : List Str} {su22 : List Value} {ab22 : Bool} {co22 : Option Bool} {dd22 : Option Addr} {ka22 kb22 kc22 kd22 ke22 : Option Value} {nm23 q23 : Str} {N23 : Addr} {bs23 : List Value} {sn23 : List Str} {su23 : List Value} {ab23 : Bool} {co23 : Option Bool} {dd23 : Option Addr} {ka23 kb23 kc23 kd23 ke23 : Option Value} {nm24 q24 : Str} {N24 : Addr} {bs24 : List Value} {sn24 : List Str} {su24 : List Value} {ab24 : Bool} {co24 : Option Bool} {dd24 : Option Addr} {ka24 kb24 kc24 kd24 ke24 : Option Value}
    (a0 : PySem.W.nsIn K mainGlobals "_law_pool" = some (some (.ref f0))) (l0 : K.lookup f0 = some ⟨oc0, od0, .func (PySem.W.fnOf "_law_pool" "_law_pool" (defArgs s_law_pool) (defBody s_law_pool) (defScope s_law_pool) .none kV0 dc0 pm0 an0 cd0 ct0), sl0⟩) (c0 : PySem.W.codeIn K cd0 "_law_pool" = true) (k0 : PySem.W.keepIn K (.ref f0) = true)
    (a1 : PySem.W.nsIn K mainGlobals "_law_draw" = some (some (.ref f1))) (l1 : K.lookup f1 = some ⟨oc1, od1, .func (PySem.W.fnOf "_law_draw" "_law_draw" (defArgs s_law_draw) (defBody s_law_draw) (defScope s_law_draw) .none kV1 dc1 pm1 an1 cd1 ct1), sl1⟩) (c1 : PySem.W.codeIn K cd1 "_law_draw" = true) (k1 : PySem.W.keepIn K (.ref f1) = true)
    (a2 : PySem.W.nsIn K mainGlobals "_law_word" = some (some (.ref f2))) (l2 : K.lookup f2 = some ⟨oc2, od2, .func (PySem.W.fnOf "_law_word" "_law_word" (defArgs s_law_word) (defBody s_law_word) (defScope s_law_word) .none kV2 dc2 pm2 an2 cd2 ct2), sl2⟩) (c2 : PySem.W.codeIn K cd2 "_law_word" = true) (k2 : PySem.W.keepIn K (.ref f2) = true)
    (a3 : PySem.W.findIn K (.ref E0) "__init__" = some (some (.ref f3))) (l3 : K.lookup f3 = some ⟨oc3, od3, .func (PySem.W.fnOf "__init__" "BadChange.__init__" (defArgs s_BadChange___init__) (defBody s_BadChange___init__) (defScope s_BadChange___init__) .none kV3 dc3 pm3 an3 cd3 ct3), sl3⟩) (c3 : PySem.W.codeIn K cd3 "BadChange.__init__" = true) (k3 : PySem.W.keepIn K (.ref f3) = true) (t3 : PySem.W.typeIn K (.ref f3) = some (.type "function"))
    (a4 : PySem.W.findIn K (.ref E1) "__init__" = some (some (.ref f4))) (l4 : K.lookup f4 = some ⟨oc4, od4, .func (PySem.W.fnOf "__init__" "BadLibrary.__init__" (defArgs s_BadLibrary___init__) (defBody s_BadLibrary___init__) (defScope s_BadLibrary___init__) .none kV4 dc4 pm4 an4 cd4 ct4), sl4⟩) (c4 : PySem.W.codeIn K cd4 "BadLibrary.__init__" = true) (k4 : PySem.W.keepIn K (.ref f4) = true) (t4 : PySem.W.typeIn K (.ref f4) = some (.type "function"))
    (a5 : PySem.W.findIn K (.ref E2) "__init__" = some (some (.ref f5))) (l5 : K.lookup f5 = some ⟨oc5, od5, .func (PySem.W.fnOf "__init__" "BadMode.__init__" (defArgs s_BadMode___init__) (defBody s_BadMode___init__) (defScope s_BadMode___init__) .none kV5 dc5 pm5 an5 cd5 ct5), sl5⟩) (c5 : PySem.W.codeIn K cd5 "BadMode.__init__" = true) (k5 : PySem.W.keepIn K (.ref f5) = true) (t5 : PySem.W.typeIn K (.ref f5) = some (.type "function"))
    (a6 : PySem.W.findIn K (.ref E3) "__init__" = some (some (.ref f6))) (l6 : K.lookup f6 = some ⟨oc6, od6, .func (PySem.W.fnOf "__init__" "BadMove.__init__" (defArgs s_BadMove___init__) (defBody s_BadMove___init__) (defScope s_BadMove___init__) .none kV6 dc6 pm6 an6 cd6 ct6), sl6⟩) (c6 : PySem.W.codeIn K cd6 "BadMove.__init__" = true) (k6 : PySem.W.keepIn K (.ref f6) = true) (t6 : PySem.W.typeIn K (.ref f6) = some (.type "function"))
    (a7 : PySem.W.findIn K (.ref E4) "__init__" = some (some (.ref f7))) (l7 : K.lookup f7 = some ⟨oc7, od7, .func (PySem.W.fnOf "__init__" "BadRecords.__init__" (defArgs s_BadRecords___init__) (defBody s_BadRecords___init__) (defScope s_BadRecords___init__) .none kV7 dc7 pm7 an7 cd7 ct7), sl7⟩) (c7 : PySem.W.codeIn K cd7 "BadRecords.__init__" = true) (k7 : PySem.W.keepIn K (.ref f7) = true) (t7 : PySem.W.typeIn K (.ref f7) = some (.type "function"))
    (a8 : PySem.W.findIn K (.ref E5) "__init__" = some (some (.ref f8))) (l8 : K.lookup f8 = some ⟨oc8, od8, .func (PySem.W.fnOf "__init__" "BadWord.__init__" (defArgs s_BadWord___init__) (defBody s_BadWord___init__) (defScope s_BadWord___init__) .none kV8 dc8 pm8 an8 cd8 ct8), sl8⟩) (c8 : PySem.W.codeIn K cd8 "BadWord.__init__" = true) (k8 : PySem.W.keepIn K (.ref f8) = true) (t8 : PySem.W.typeIn K (.ref f8) = some (.type "function"))
    (a9 : PySem.W.findIn K (.ref E6) "__init__" = some (some (.ref f9))) (l9 : K.lookup f9 = some ⟨oc9, od9, .func (PySem.W.fnOf "__init__" "Clash.__init__" (defArgs s_Clash___init__) (defBody s_Clash___init__) (defScope s_Clash___init__) .none kV9 dc9 pm9 an9 cd9 ct9), sl9⟩) (c9 : PySem.W.codeIn K cd9 "Clash.__init__" = true) (k9 : PySem.W.keepIn K (.ref f9) = true) (t9 : PySem.W.typeIn K (.ref f9) = some (.type "function"))
    (a10 : PySem.W.findIn K (.ref E7) "__init__" = some (some (.ref f10))) (l10 : K.lookup f10 = some ⟨oc10, od10, .func (PySem.W.fnOf "__init__" "Doomed.__init__" (defArgs s_Doomed___init__) (defBody s_Doomed___init__) (defScope s_Doomed___init__) .none kV10 dc10 pm10 an10 cd10 ct10), sl10⟩) (c10 : PySem.W.codeIn K cd10 "Doomed.__init__" = true) (k10 : PySem.W.keepIn K (.ref f10) = true) (t10 : PySem.W.typeIn K (.ref f10) = some (.type "function"))
    (a11 : PySem.W.findIn K (.ref E8) "__init__" = some (some (.ref f11))) (l11 : K.lookup f11 = some ⟨oc11, od11, .func (PySem.W.fnOf "__init__" "Endless.__init__" (defArgs s_Endless___init__) (defBody s_Endless___init__) (defScope s_Endless___init__) .none kV11 dc11 pm11 an11 cd11 ct11), sl11⟩) (c11 : PySem.W.codeIn K cd11 "Endless.__init__" = true) (k11 : PySem.W.keepIn K (.ref f11) = true) (t11 : PySem.W.typeIn K (.ref f11) = some (.type "function"))
    (a12 : PySem.W.findIn K (.ref E9) "__init__" = some (some (.ref f12))) (l12 : K.lookup f12 = some ⟨oc12, od12, .func (PySem.W.fnOf "__init__" "Failed.__init__" (defArgs s_Failed___init__) (defBody s_Failed___init__) (defScope s_Failed___init__) .none kV12 dc12 pm12 an12 cd12 ct12), sl12⟩) (c12 : PySem.W.codeIn K cd12 "Failed.__init__" = true) (k12 : PySem.W.keepIn K (.ref f12) = true) (t12 : PySem.W.typeIn K (.ref f12) = some (.type "function"))
    (a13 : PySem.W.findIn K (.ref E10) "__init__" = some (some (.ref f13))) (l13 : K.lookup f13 = some ⟨oc13, od13, .func (PySem.W.fnOf "__init__" "Missing.__init__" (defArgs s_Missing___init__) (defBody s_Missing___init__) (defScope s_Missing___init__) .none kV13 dc13 pm13 an13 cd13 ct13), sl13⟩) (c13 : PySem.W.codeIn K cd13 "Missing.__init__" = true) (k13 : PySem.W.keepIn K (.ref f13) = true) (t13 : PySem.W.typeIn K (.ref f13) = some (.type "function"))
    (a14 : PySem.W.findIn K (.ref E12) "__init__" = some (some (.ref f14))) (l14 : K.lookup f14 = some ⟨oc14, od14, .func (PySem.W.fnOf "__init__" "NoCall.__init__" (defArgs s_NoCall___init__) (defBody s_NoCall___init__) (defScope s_NoCall___init__) .none kV14 dc14 pm14 an14 cd14 ct14), sl14⟩) (c14 : PySem.W.codeIn K cd14 "NoCall.__init__" = true) (k14 : PySem.W.keepIn K (.ref f14) = true) (t14 : PySem.W.typeIn K (.ref f14) = some (.type "function"))
    (a15 : PySem.W.findIn K (.ref E13) "__init__" = some (some (.ref f15))) (l15 : K.lookup f15 = some ⟨oc15, od15, .func (PySem.W.fnOf "__init__" "NoFace.__init__" (defArgs s_NoFace___init__) (defBody s_NoFace___init__) (defScope s_NoFace___init__) .none kV15 dc15 pm15 an15 cd15 ct15), sl15⟩) (c15 : PySem.W.codeIn K cd15 "NoFace.__init__" = true) (k15 : PySem.W.keepIn K (.ref f15) = true) (t15 : PySem.W.typeIn K (.ref f15) = some (.type "function"))
    (a16 : PySem.W.findIn K (.ref E14) "__init__" = some (some (.ref f16))) (l16 : K.lookup f16 = some ⟨oc16, od16, .func (PySem.W.fnOf "__init__" "NoFate.__init__" (defArgs s_NoFate___init__) (defBody s_NoFate___init__) (defScope s_NoFate___init__) .none kV16 dc16 pm16 an16 cd16 ct16), sl16⟩) (c16 : PySem.W.codeIn K cd16 "NoFate.__init__" = true) (k16 : PySem.W.keepIn K (.ref f16) = true) (t16 : PySem.W.typeIn K (.ref f16) = some (.type "function"))
    (a17 : PySem.W.findIn K (.ref E15) "__init__" = some (some (.ref f17))) (l17 : K.lookup f17 = some ⟨oc17, od17, .func (PySem.W.fnOf "__init__" "NoFunction.__init__" (defArgs s_NoFunction___init__) (defBody s_NoFunction___init__) (defScope s_NoFunction___init__) .none kV17 dc17 pm17 an17 cd17 ct17), sl17⟩) (c17 : PySem.W.codeIn K cd17 "NoFunction.__init__" = true) (k17 : PySem.W.keepIn K (.ref f17) = true) (t17 : PySem.W.typeIn K (.ref f17) = some (.type "function"))
    (a18 : PySem.W.findIn K (.ref E16) "__init__" = some (some (.ref f18))) (l18 : K.lookup f18 = some ⟨oc18, od18, .func (PySem.W.fnOf "__init__" "NoRecord.__init__" (defArgs s_NoRecord___init__) (defBody s_NoRecord___init__) (defScope s_NoRecord___init__) .none kV18 dc18 pm18 an18 cd18 ct18), sl18⟩) (c18 : PySem.W.codeIn K cd18 "NoRecord.__init__" = true) (k18 : PySem.W.keepIn K (.ref f18) = true) (t18 : PySem.W.typeIn K (.ref f18) = some (.type "function"))
    (a19 : PySem.W.findIn K (.ref E17) "__init__" = some (some (.ref f19))) (l19 : K.lookup f19 = some ⟨oc19, od19, .func (PySem.W.fnOf "__init__" "NoRow.__init__" (defArgs s_NoRow___init__) (defBody s_NoRow___init__) (defScope s_NoRow___init__) .none kV19 dc19 pm19 an19 cd19 ct19), sl19⟩) (c19 : PySem.W.codeIn K cd19 "NoRow.__init__" = true) (k19 : PySem.W.keepIn K (.ref f19) = true) (t19 : PySem.W.typeIn K (.ref f19) = some (.type "function"))
    (a20 : PySem.W.findIn K (.ref E18) "__init__" = some (some (.ref f20))) (l20 : K.lookup f20 = some ⟨oc20, od20, .func (PySem.W.fnOf "__init__" "NotNow.__init__" (defArgs s_NotNow___init__) (defBody s_NotNow___init__) (defScope s_NotNow___init__) .none kV20 dc20 pm20 an20 cd20 ct20), sl20⟩) (c20 : PySem.W.codeIn K cd20 "NotNow.__init__" = true) (k20 : PySem.W.keepIn K (.ref f20) = true) (t20 : PySem.W.typeIn K (.ref f20) = some (.type "function"))
    (a21 : PySem.W.findIn K (.ref E19) "__init__" = some (some (.ref f21))) (l21 : K.lookup f21 = some ⟨oc21, od21, .func (PySem.W.fnOf "__init__" "Present.__init__" (defArgs s_Present___init__) (defBody s_Present___init__) (defScope s_Present___init__) .none kV21 dc21 pm21 an21 cd21 ct21), sl21⟩) (c21 : PySem.W.codeIn K cd21 "Present.__init__" = true) (k21 : PySem.W.keepIn K (.ref f21) = true) (t21 : PySem.W.typeIn K (.ref f21) = some (.type "function"))
    (a22 : PySem.W.findIn K (.ref E20) "__init__" = some (some (.ref f22))) (l22 : K.lookup f22 = some ⟨oc22, od22, .func (PySem.W.fnOf "__init__" "Refused.__init__" (defArgs s_Refused___init__) (defBody s_Refused___init__) (defScope s_Refused___init__) .none kV22 dc22 pm22 an22 cd22 ct22), sl22⟩) (c22 : PySem.W.codeIn K cd22 "Refused.__init__" = true) (k22 : PySem.W.keepIn K (.ref f22) = true) (t22 : PySem.W.typeIn K (.ref f22) = some (.type "function"))
    (a23 : PySem.W.findIn K (.ref E21) "__init__" = some (some (.ref f23))) (l23 : K.lookup f23 = some ⟨oc23, od23, .func (PySem.W.fnOf "__init__" "TooMany.__init__" (defArgs s_TooMany___init__) (defBody s_TooMany___init__) (defScope s_TooMany___init__) .none kV23 dc23 pm23 an23 cd23 ct23), sl23⟩) (c23 : PySem.W.codeIn K cd23 "TooMany.__init__" = true) (k23 : PySem.W.keepIn K (.ref f23) = true) (t23 : PySem.W.typeIn K (.ref f23) = some (.type "function"))
    (a24 : PySem.W.findIn K (.ref E22) "__init__" = some (some (.ref f24))) (l24 : K.lookup f24 = some ⟨oc24, od24, .func (PySem.W.fnOf "__init__" "Unknown.__init__" (defArgs s_Unknown___init__) (defBody s_Unknown___init__) (defScope s_Unknown___init__) .none kV24 dc24 pm24 an24 cd24 ct24), sl24⟩) (c24 : PySem.W.codeIn K cd24 "Unknown.__init__" = true) (k24 : PySem.W.keepIn K (.ref f24) = true) (t24 : PySem.W.typeIn K (.ref f24) = some (.type "function"))
    (a25 : PySem.W.findIn K (.ref E23) "__init__" = some (some (.ref f25))) (l25 : K.lookup f25 = some ⟨oc25, od25, .func (PySem.W.fnOf "__init__" "Unlike.__init__" (defArgs s_Unlike___init__) (defBody s_Unlike___init__) (defScope s_Unlike___init__) .none kV25 dc25 pm25 an25 cd25 ct25), sl25⟩) (c25 : PySem.W.codeIn K cd25 "Unlike.__init__" = true) (k25 : PySem.W.keepIn K (.ref f25) = true) (t25 : PySem.W.typeIn K (.ref f25) = some (.type "function"))
    (a26 : PySem.W.findIn K (.ref E24) "__init__" = some (some (.ref f26))) (l26 : K.lookup f26 = some ⟨oc26, od26, .func (PySem.W.fnOf "__init__" "Waits.__init__" (defArgs s_Waits___init__) (defBody s_Waits___init__) (defScope s_Waits___init__) .none kV26 dc26 pm26 an26 cd26 ct26), sl26⟩) (c26 : PySem.W.codeIn K cd26 "Waits.__init__" = true) (k26 : PySem.W.keepIn K (.ref f26) = true) (t26 : PySem.W.typeIn K (.ref f26) = some (.type "function"))
    (a27 : PySem.W.nsIn K mainGlobals "_law_thing" = some (some (.ref f27))) (l27 : K.lookup f27 = some ⟨oc27, od27, .func (PySem.W.fnOf "_law_thing" "_law_thing" (defArgs s_law_thing) (defBody s_law_thing) (defScope s_law_thing) .none kV27 dc27 pm27 an27 cd27 ct27), sl27⟩) (c27 : PySem.W.codeIn K cd27 "_law_thing" = true) (k27 : PySem.W.keepIn K (.ref f27) = true)
    (a28 : PySem.W.nsIn K mainGlobals "_law_classes" = some (some (.ref f28))) (l28 : K.lookup f28 = some ⟨oc28, od28, .func (PySem.W.fnOf "_law_classes" "_law_classes" (defArgs s_law_classes) (defBody s_law_classes) (defScope s_law_classes) .none kV28 dc28 pm28 an28 cd28 ct28), sl28⟩) (c28 : PySem.W.codeIn K cd28 "_law_classes" = true) (k28 : PySem.W.keepIn K (.ref f28) = true)
    (a29 : PySem.W.nsIn K mainGlobals "_law_first" = some (some (.ref f29))) (l29 : K.lookup f29 = some ⟨oc29, od29, .func (PySem.W.fnOf "_law_first" "_law_first" (defArgs s_law_first) (defBody s_law_first) (defScope s_law_first) .none kV29 dc29 pm29 an29 cd29 ct29), sl29⟩) (c29 : PySem.W.codeIn K cd29 "_law_first" = true) (k29 : PySem.W.keepIn K (.ref f29) = true)
    (a30 : PySem.W.nsIn K mainGlobals "_law_second" = some (some (.ref f30))) (l30 : K.lookup f30 = some ⟨oc30, od30, .func (PySem.W.fnOf "_law_second" "_law_second" (defArgs s_law_second) (defBody s_law_second) (defScope s_law_second) .none kV30 dc30 pm30 an30 cd30 ct30), sl30⟩) (c30 : PySem.W.codeIn K cd30 "_law_second" = true) (k30 : PySem.W.keepIn K (.ref f30) = true)
    (a31 : PySem.W.nsIn K mainGlobals "_law_fields" = some (some (.ref f31))) (l31 : K.lookup f31 = some ⟨oc31, od31, .func (PySem.W.fnOf "_law_fields" "_law_fields" (defArgs s_law_fields) (defBody s_law_fields) (defScope s_law_fields) .none kV31 dc31 pm31 an31 cd31 ct31), sl31⟩) (c31 : PySem.W.codeIn K cd31 "_law_fields" = true) (k31 : PySem.W.keepIn K (.ref f31) = true)
    (a32 : PySem.W.nsIn K mainGlobals "law" = some (some (.ref f32))) (l32 : K.lookup f32 = some ⟨oc32, od32, .func (PySem.W.fnOf "law" "law" (defArgs s_law) (defBody s_law) (defScope s_law) .none kV32 dc32 pm32 an32 cd32 ct32), sl32⟩) (c32 : PySem.W.codeIn K cd32 "law" = true) (k32 : PySem.W.keepIn K (.ref f32) = true)
    (z_int : PySem.W.nsIn K mainGlobals "int" = some none)
    (z_len : PySem.W.nsIn K mainGlobals "len" = some none)
    (z_abs : PySem.W.nsIn K mainGlobals "abs" = some none)
    (z_range : PySem.W.nsIn K mainGlobals "range" = some none)
    (z_max : PySem.W.nsIn K mainGlobals "max" = some none)
    (z_min : PySem.W.nsIn K mainGlobals "min" = some none)
    (z_isi : PySem.W.nsIn K mainGlobals "isinstance" = some none)
    (z_repr : PySem.W.nsIn K mainGlobals "repr" = some none)
    (z_VE : PySem.W.nsIn K mainGlobals "ValueError" = some none)
    (hgI : PySem.W.nsIn K mainGlobals "InnercommitsError" = some (some (.ref CI)))
    (hg0 : PySem.W.nsIn K mainGlobals "BadChange" = some (some (.ref E0)))
    (hx0 : K.lookup E0 = some (excClassObj nm0 q0 E0 N0 bs0 [.ref CI, .type "ValueError", .type "Exception", .type "BaseException", .type "object"] true sn0 su0 ab0 co0 dd0 ka0 kb0 kc0 kd0 ke0 "ValueError.__new__"))
    (hk0 : PySem.W.keepIn K (.ref E0) = true)
    (ht0 : PySem.W.typeIn K (.ref E0) = some (.type "type"))
    (hs0 : PySem.W.findIn K (.ref E0) "__setattr__" = some (some (.builtin "object.__setattr__")))
    (hb0 : PySem.W.subIn K (.ref E0) (.type "BaseException") = some true)
    (hg1 : PySem.W.nsIn K mainGlobals "BadLibrary" = some (some (.ref E1)))
    (hx1 : K.lookup E1 = some (excClassObj nm1 q1 E1 N1 bs1 [.ref CI, .type "ValueError", .type "Exception", .type "BaseException", .type "object"] true sn1 su1 ab1 co1 dd1 ka1 kb1 kc1 kd1 ke1 "ValueError.__new__"))
    (hk1 : PySem.W.keepIn K (.ref E1) = true)
    (ht1 : PySem.W.typeIn K (.ref E1) = some (.type "type"))
    (hs1 : PySem.W.findIn K (.ref E1) "__setattr__" = some (some (.builtin "object.__setattr__")))
    (hb1 : PySem.W.subIn K (.ref E1) (.type "BaseException") = some true)
    (hg2 : PySem.W.nsIn K mainGlobals "BadMode" = some (some (.ref E2)))
    (hx2 : K.lookup E2 = some (excClassObj nm2 q2 E2 N2 bs2 [.ref CI, .type "ValueError", .type "Exception", .type "BaseException", .type "object"] true sn2 su2 ab2 co2 dd2 ka2 kb2 kc2 kd2 ke2 "ValueError.__new__"))
    (hk2 : PySem.W.keepIn K (.ref E2) = true)
    (ht2 : PySem.W.typeIn K (.ref E2) = some (.type "type"))
    (hs2 : PySem.W.findIn K (.ref E2) "__setattr__" = some (some (.builtin "object.__setattr__")))
    (hb2 : PySem.W.subIn K (.ref E2) (.type "BaseException") = some true)
    (hg3 : PySem.W.nsIn K mainGlobals "BadMove" = some (some (.ref E3)))
    (hx3 : K.lookup E3 = some (excClassObj nm3 q3 E3 N3 bs3 [.ref CI, .type "ValueError", .type "Exception", .type "BaseException", .type "object"] true sn3 su3 ab3 co3 dd3 ka3 kb3 kc3 kd3 ke3 "ValueError.__new__"))
    (hk3 : PySem.W.keepIn K (.ref E3) = true)
    (ht3 : PySem.W.typeIn K (.ref E3) = some (.type "type"))
    (hs3 : PySem.W.findIn K (.ref E3) "__setattr__" = some (some (.builtin "object.__setattr__")))
    (hb3 : PySem.W.subIn K (.ref E3) (.type "BaseException") = some true)
    (hg4 : PySem.W.nsIn K mainGlobals "BadRecords" = some (some (.ref E4)))
    (hx4 : K.lookup E4 = some (excClassObj nm4 q4 E4 N4 bs4 [.ref CI, .type "ValueError", .type "Exception", .type "BaseException", .type "object"] true sn4 su4 ab4 co4 dd4 ka4 kb4 kc4 kd4 ke4 "ValueError.__new__"))
    (hk4 : PySem.W.keepIn K (.ref E4) = true)
    (ht4 : PySem.W.typeIn K (.ref E4) = some (.type "type"))
    (hs4 : PySem.W.findIn K (.ref E4) "__setattr__" = some (some (.builtin "object.__setattr__")))
    (hb4 : PySem.W.subIn K (.ref E4) (.type "BaseException") = some true)
    (hg5 : PySem.W.nsIn K mainGlobals "BadWord" = some (some (.ref E5)))
    (hx5 : K.lookup E5 = some (excClassObj nm5 q5 E5 N5 bs5 [.ref CI, .type "ValueError", .type "Exception", .type "BaseException", .type "object"] true sn5 su5 ab5 co5 dd5 ka5 kb5 kc5 kd5 ke5 "ValueError.__new__"))
    (hk5 : PySem.W.keepIn K (.ref E5) = true)
    (ht5 : PySem.W.typeIn K (.ref E5) = some (.type "type"))
    (hs5 : PySem.W.findIn K (.ref E5) "__setattr__" = some (some (.builtin "object.__setattr__")))
    (hb5 : PySem.W.subIn K (.ref E5) (.type "BaseException") = some true)
    (hg6 : PySem.W.nsIn K mainGlobals "Clash" = some (some (.ref E6)))
    (hx6 : K.lookup E6 = some (excClassObj nm6 q6 E6 N6 bs6 [.ref CI, .type "ValueError", .type "Exception", .type "BaseException", .type "object"] true sn6 su6 ab6 co6 dd6 ka6 kb6 kc6 kd6 ke6 "ValueError.__new__"))
    (hk6 : PySem.W.keepIn K (.ref E6) = true)
    (ht6 : PySem.W.typeIn K (.ref E6) = some (.type "type"))
    (hs6 : PySem.W.findIn K (.ref E6) "__setattr__" = some (some (.builtin "object.__setattr__")))
    (hb6 : PySem.W.subIn K (.ref E6) (.type "BaseException") = some true)
    (hg7 : PySem.W.nsIn K mainGlobals "Doomed" = some (some (.ref E7)))
    (hx7 : K.lookup E7 = some (excClassObj nm7 q7 E7 N7 bs7 [.ref CI, .type "ValueError", .type "Exception", .type "BaseException", .type "object"] true sn7 su7 ab7 co7 dd7 ka7 kb7 kc7 kd7 ke7 "ValueError.__new__"))
    (hk7 : PySem.W.keepIn K (.ref E7) = true)
    (ht7 : PySem.W.typeIn K (.ref E7) = some (.type "type"))
    (hs7 : PySem.W.findIn K (.ref E7) "__setattr__" = some (some (.builtin "object.__setattr__")))
    (hb7 : PySem.W.subIn K (.ref E7) (.type "BaseException") = some true)
    (hg8 : PySem.W.nsIn K mainGlobals "Endless" = some (some (.ref E8)))
    (hx8 : K.lookup E8 = some (excClassObj nm8 q8 E8 N8 bs8 [.ref CI, .type "ValueError", .type "Exception", .type "BaseException", .type "object"] true sn8 su8 ab8 co8 dd8 ka8 kb8 kc8 kd8 ke8 "ValueError.__new__"))
    (hk8 : PySem.W.keepIn K (.ref E8) = true)
    (ht8 : PySem.W.typeIn K (.ref E8) = some (.type "type"))
    (hs8 : PySem.W.findIn K (.ref E8) "__setattr__" = some (some (.builtin "object.__setattr__")))
    (hb8 : PySem.W.subIn K (.ref E8) (.type "BaseException") = some true)
    (hg9 : PySem.W.nsIn K mainGlobals "Failed" = some (some (.ref E9)))
    (hx9 : K.lookup E9 = some (excClassObj nm9 q9 E9 N9 bs9 [.ref CI, .type "ValueError", .type "Exception", .type "BaseException", .type "object"] true sn9 su9 ab9 co9 dd9 ka9 kb9 kc9 kd9 ke9 "ValueError.__new__"))
    (hk9 : PySem.W.keepIn K (.ref E9) = true)
    (ht9 : PySem.W.typeIn K (.ref E9) = some (.type "type"))
    (hs9 : PySem.W.findIn K (.ref E9) "__setattr__" = some (some (.builtin "object.__setattr__")))
    (hb9 : PySem.W.subIn K (.ref E9) (.type "BaseException") = some true)
    (hg10 : PySem.W.nsIn K mainGlobals "Missing" = some (some (.ref E10)))
    (hx10 : K.lookup E10 = some (excClassObj nm10 q10 E10 N10 bs10 [.ref CI, .type "ValueError", .type "Exception", .type "BaseException", .type "object"] true sn10 su10 ab10 co10 dd10 ka10 kb10 kc10 kd10 ke10 "ValueError.__new__"))
    (hk10 : PySem.W.keepIn K (.ref E10) = true)
    (ht10 : PySem.W.typeIn K (.ref E10) = some (.type "type"))
    (hs10 : PySem.W.findIn K (.ref E10) "__setattr__" = some (some (.builtin "object.__setattr__")))
    (hb10 : PySem.W.subIn K (.ref E10) (.type "BaseException") = some true)
    (hg11 : PySem.W.nsIn K mainGlobals "NoBlock" = some (some (.ref E11)))
    (hx11 : K.lookup E11 = some (excClassObj nm11 q11 E11 N11 bs11 [.ref CI, .type "ValueError", .type "Exception", .type "BaseException", .type "object"] true sn11 su11 ab11 co11 dd11 ka11 kb11 kc11 kd11 ke11 "ValueError.__new__"))
    (hk11 : PySem.W.keepIn K (.ref E11) = true)
    (ht11 : PySem.W.typeIn K (.ref E11) = some (.type "type"))
    (hs11 : PySem.W.findIn K (.ref E11) "__setattr__" = some (some (.builtin "object.__setattr__")))
    (hb11 : PySem.W.subIn K (.ref E11) (.type "BaseException") = some true)
    (hg12 : PySem.W.nsIn K mainGlobals "NoCall" = some (some (.ref E12)))
    (hx12 : K.lookup E12 = some (excClassObj nm12 q12 E12 N12 bs12 [.ref CI, .type "ValueError", .type "Exception", .type "BaseException", .type "object"] true sn12 su12 ab12 co12 dd12 ka12 kb12 kc12 kd12 ke12 "ValueError.__new__"))
    (hk12 : PySem.W.keepIn K (.ref E12) = true)
    (ht12 : PySem.W.typeIn K (.ref E12) = some (.type "type"))
    (hs12 : PySem.W.findIn K (.ref E12) "__setattr__" = some (some (.builtin "object.__setattr__")))
    (hb12 : PySem.W.subIn K (.ref E12) (.type "BaseException") = some true)
    (hg13 : PySem.W.nsIn K mainGlobals "NoFace" = some (some (.ref E13)))
    (hx13 : K.lookup E13 = some (excClassObj nm13 q13 E13 N13 bs13 [.ref CI, .type "ValueError", .type "Exception", .type "BaseException", .type "object"] true sn13 su13 ab13 co13 dd13 ka13 kb13 kc13 kd13 ke13 "ValueError.__new__"))
    (hk13 : PySem.W.keepIn K (.ref E13) = true)
    (ht13 : PySem.W.typeIn K (.ref E13) = some (.type "type"))
    (hs13 : PySem.W.findIn K (.ref E13) "__setattr__" = some (some (.builtin "object.__setattr__")))
    (hb13 : PySem.W.subIn K (.ref E13) (.type "BaseException") = some true)
    (hg14 : PySem.W.nsIn K mainGlobals "NoFate" = some (some (.ref E14)))
    (hx14 : K.lookup E14 = some (excClassObj nm14 q14 E14 N14 bs14 [.ref CI, .type "ValueError", .type "Exception", .type "BaseException", .type "object"] true sn14 su14 ab14 co14 dd14 ka14 kb14 kc14 kd14 ke14 "ValueError.__new__"))
    (hk14 : PySem.W.keepIn K (.ref E14) = true)
    (ht14 : PySem.W.typeIn K (.ref E14) = some (.type "type"))
    (hs14 : PySem.W.findIn K (.ref E14) "__setattr__" = some (some (.builtin "object.__setattr__")))
    (hb14 : PySem.W.subIn K (.ref E14) (.type "BaseException") = some true)
    (hg15 : PySem.W.nsIn K mainGlobals "NoFunction" = some (some (.ref E15)))
    (hx15 : K.lookup E15 = some (excClassObj nm15 q15 E15 N15 bs15 [.ref CI, .type "ValueError", .type "Exception", .type "BaseException", .type "object"] true sn15 su15 ab15 co15 dd15 ka15 kb15 kc15 kd15 ke15 "ValueError.__new__"))
    (hk15 : PySem.W.keepIn K (.ref E15) = true)
    (ht15 : PySem.W.typeIn K (.ref E15) = some (.type "type"))
    (hs15 : PySem.W.findIn K (.ref E15) "__setattr__" = some (some (.builtin "object.__setattr__")))
    (hb15 : PySem.W.subIn K (.ref E15) (.type "BaseException") = some true)
    (hg16 : PySem.W.nsIn K mainGlobals "NoRecord" = some (some (.ref E16)))
    (hx16 : K.lookup E16 = some (excClassObj nm16 q16 E16 N16 bs16 [.ref CI, .type "ValueError", .type "Exception", .type "BaseException", .type "object"] true sn16 su16 ab16 co16 dd16 ka16 kb16 kc16 kd16 ke16 "ValueError.__new__"))
    (hk16 : PySem.W.keepIn K (.ref E16) = true)
    (ht16 : PySem.W.typeIn K (.ref E16) = some (.type "type"))
    (hs16 : PySem.W.findIn K (.ref E16) "__setattr__" = some (some (.builtin "object.__setattr__")))
    (hb16 : PySem.W.subIn K (.ref E16) (.type "BaseException") = some true)
    (hg17 : PySem.W.nsIn K mainGlobals "NoRow" = some (some (.ref E17)))
    (hx17 : K.lookup E17 = some (excClassObj nm17 q17 E17 N17 bs17 [.ref CI, .type "ValueError", .type "Exception", .type "BaseException", .type "object"] true sn17 su17 ab17 co17 dd17 ka17 kb17 kc17 kd17 ke17 "ValueError.__new__"))
    (hk17 : PySem.W.keepIn K (.ref E17) = true)
    (ht17 : PySem.W.typeIn K (.ref E17) = some (.type "type"))
    (hs17 : PySem.W.findIn K (.ref E17) "__setattr__" = some (some (.builtin "object.__setattr__")))
    (hb17 : PySem.W.subIn K (.ref E17) (.type "BaseException") = some true)
    (hg18 : PySem.W.nsIn K mainGlobals "NotNow" = some (some (.ref E18)))
    (hx18 : K.lookup E18 = some (excClassObj nm18 q18 E18 N18 bs18 [.ref CI, .type "ValueError", .type "Exception", .type "BaseException", .type "object"] true sn18 su18 ab18 co18 dd18 ka18 kb18 kc18 kd18 ke18 "ValueError.__new__"))
    (hk18 : PySem.W.keepIn K (.ref E18) = true)
    (ht18 : PySem.W.typeIn K (.ref E18) = some (.type "type"))
    (hs18 : PySem.W.findIn K (.ref E18) "__setattr__" = some (some (.builtin "object.__setattr__")))
    (hb18 : PySem.W.subIn K (.ref E18) (.type "BaseException") = some true)
    (hg19 : PySem.W.nsIn K mainGlobals "Present" = some (some (.ref E19)))
    (hx19 : K.lookup E19 = some (excClassObj nm19 q19 E19 N19 bs19 [.ref CI, .type "ValueError", .type "Exception", .type "BaseException", .type "object"] true sn19 su19 ab19 co19 dd19 ka19 kb19 kc19 kd19 ke19 "ValueError.__new__"))
    (hk19 : PySem.W.keepIn K (.ref E19) = true)
    (ht19 : PySem.W.typeIn K (.ref E19) = some (.type "type"))
    (hs19 : PySem.W.findIn K (.ref E19) "__setattr__" = some (some (.builtin "object.__setattr__")))
    (hb19 : PySem.W.subIn K (.ref E19) (.type "BaseException") = some true)
    (hg20 : PySem.W.nsIn K mainGlobals "Refused" = some (some (.ref E20)))
    (hx20 : K.lookup E20 = some (excClassObj nm20 q20 E20 N20 bs20 [.ref CI, .type "ValueError", .type "Exception", .type "BaseException", .type "object"] true sn20 su20 ab20 co20 dd20 ka20 kb20 kc20 kd20 ke20 "ValueError.__new__"))
    (hk20 : PySem.W.keepIn K (.ref E20) = true)
    (ht20 : PySem.W.typeIn K (.ref E20) = some (.type "type"))
    (hs20 : PySem.W.findIn K (.ref E20) "__setattr__" = some (some (.builtin "object.__setattr__")))
    (hb20 : PySem.W.subIn K (.ref E20) (.type "BaseException") = some true)
    (hg21 : PySem.W.nsIn K mainGlobals "TooMany" = some (some (.ref E21)))
    (hx21 : K.lookup E21 = some (excClassObj nm21 q21 E21 N21 bs21 [.ref CI, .type "ValueError", .type "Exception", .type "BaseException", .type "object"] true sn21 su21 ab21 co21 dd21 ka21 kb21 kc21 kd21 ke21 "ValueError.__new__"))
    (hk21 : PySem.W.keepIn K (.ref E21) = true)
    (ht21 : PySem.W.typeIn K (.ref E21) = some (.type "type"))
    (hs21 : PySem.W.findIn K (.ref E21) "__setattr__" = some (some (.builtin "object.__setattr__")))
    (hb21 : PySem.W.subIn K (.ref E21) (.type "BaseException") = some true)
    (hg22 : PySem.W.nsIn K mainGlobals "Unknown" = some (some (.ref E22)))
    (hx22 : K.lookup E22 = some (excClassObj nm22 q22 E22 N22 bs22 [.ref CI, .type "ValueError", .type "Exception", .type "BaseException", .type "object"] true sn22 su22 ab22 co22 dd22 ka22 kb22 kc22 kd22 ke22 "ValueError.__new__"))
    (hk22 : PySem.W.keepIn K (.ref E22) = true)
    (ht22 : PySem.W.typeIn K (.ref E22) = some (.type "type"))
    (hs22 : PySem.W.findIn K (.ref E22) "__setattr__" = some (some (.builtin "object.__setattr__")))
    (hb22 : PySem.W.subIn K (.ref E22) (.type "BaseException") = some true)
    (hg23 : PySem.W.nsIn K mainGlobals "Unlike" = some (some (.ref E23)))
    (hx23 : K.lookup E23 = some (excClassObj nm23 q23 E23 N23 bs23 [.ref CI, .type "ValueError", .type "Exception", .type "BaseException", .type "object"] true sn23 su23 ab23 co23 dd23 ka23 kb23 kc23 kd23 ke23 "ValueError.__new__"))
    (hk23 : PySem.W.keepIn K (.ref E23) = true)
    (ht23 : PySem.W.typeIn K (.ref E23) = some (.type "type"))
    (hs23 : PySem.W.findIn K (.ref E23) "__setattr__" = some (some (.builtin "object.__setattr__")))
    (hb23 : PySem.W.subIn K (.ref E23) (.type "BaseException") = some true)
    (hg24 : PySem.W.nsIn K mainGlobals "Waits" = some (some (.ref E24)))
    (hx24 : K.lookup E24 = some (excClassObj nm24 q24 E24 N24 bs24 [.ref CI, .type "ValueError", .type "Exception", .type "BaseException", .type "object"] true sn24 su24 ab24 co24 dd24 ka24 kb24 kc24 kd24 ke24 "ValueError.__new__"))
    (hk24 : PySem.W.keepIn K (.ref E24) = true)
    (ht24 : PySem.W.typeIn K (.ref E24) = some (.type "type"))
    (hs24 : PySem.W.findIn K (.ref E24) "__setattr__" = some (some (.builtin "object.__setattr__")))
    (hb24 : PySem.W.subIn K (.ref E24) (.type "BaseException") = some true)
    (hx11b : PySem.W.excIn K E11 [.type "ValueError", .type "Exception", .type "BaseException", .type "object"] "ValueError.__new__" = true)
    (hehn : PySem.W.specialIn K (.builtin "object.__class__") "__get__" = some (some (.builtin "getset_descriptor.__get__")))
    (hetk : PySem.W.takesIn K (.builtin "object.__class__") = some true)
    (htab1 : ecTab K [E0, E1, E2, E3, E4, E5, E6, E7, E8, E9, E10, E11, E12, E13, E14, E15, E16, E17, E18, E19, E20, E21, E22, E23, E24] = true)
    (htab2 : kitTab K [E0, E1, E2, E3, E4, E5, E6, E7, E8, E9, E10, E11, E12, E13, E14, E15, E16, E17, E18, E19, E20, E21, E22, E23, E24] = true)
    (htab3 : topTab K CI [E0, E1, E2, E3, E4, E5, E6, E7, E8, E9, E10, E11, E12, E13, E14, E15, E16, E17, E18, E19, E20, E21, E22, E23, E24] = true)
    (htab4 : noTab K [E0, E1, E2, E3, E4, E5, E6, E7, E8, E9, E10, E11, E12, E13, E14, E15, E16, E17, E18, E19, E20, E21, E22, E23, E24] = true)
    : ∃ fd : FuncData, (∀ (s : Shared) (v : Value), BindsTo s fd ⟨[v], []⟩ [("script", v)]) ∧ ∀ base : Heap, K.In base → base.Ns mainGlobals mg → FnG l.prog w K mg base 8 fa fd ["script"] (spLaw K) := by
  have e := hfa.symm.trans (PySem.W.mg_of X G a32)
  cases e
  have T : Bn mg := ⟨PySem.W.mg_none_of X G z_int, PySem.W.mg_none_of X G z_len, PySem.W.mg_none_of X G z_abs, PySem.W.mg_none_of X G z_range, PySem.W.mg_none_of X G z_max, PySem.W.mg_none_of X G z_min, PySem.W.mg_none_of X G z_isi, PySem.W.mg_none_of X G z_repr, PySem.W.mg_none_of X G z_VE⟩
  have F0 := fun_mk (st := s_law_pool) l0 c0 k0
  have b0 := F0.binds (ps := ["script", "at"]) fun _ _ _ _ _ _ us hl => match us, hl with | [_, _], _ => rfl
  have F1 := fun_mk (st := s_law_draw) l1 c1 k1
  have b1 := F1.binds (ps := ["pool", "many"]) fun _ _ _ _ _ _ us hl => match us, hl with | [_, _], _ => rfl
  have F2 := fun_mk (st := s_law_word) l2 c2 k2
  have b2 := F2.binds (ps := ["pool"]) fun _ _ _ _ _ _ us hl => match us, hl with | [_], _ => rfl
  have F3 := fun_mk (st := s_BadChange___init__) l3 c3 k3
  have b3 := F3.binds (ps := ["self", "index"]) fun _ _ _ _ _ _ us hl => match us, hl with | [_, _], _ => rfl
  have F4 := fun_mk (st := s_BadLibrary___init__) l4 c4 k4
  have b4 := F4.binds (ps := ["self", "line"]) fun _ _ _ _ _ _ us hl => match us, hl with | [_, _], _ => rfl
  have F5 := fun_mk (st := s_BadMode___init__) l5 c5 k5
  have b5 := F5.binds (ps := ["self", "mode"]) fun _ _ _ _ _ _ us hl => match us, hl with | [_, _], _ => rfl
  have F6 := fun_mk (st := s_BadMove___init__) l6 c6 k6
  have b6 := F6.binds (ps := ["self", "thing"]) fun _ _ _ _ _ _ us hl => match us, hl with | [_, _], _ => rfl
  have F7 := fun_mk (st := s_BadRecords___init__) l7 c7 k7
  have b7 := F7.binds (ps := ["self", "record"]) fun _ _ _ _ _ _ us hl => match us, hl with | [_, _], _ => rfl
  have F8 := fun_mk (st := s_BadWord___init__) l8 c8 k8
  have b8 := F8.binds (ps := ["self", "word"]) fun _ _ _ _ _ _ us hl => match us, hl with | [_, _], _ => rfl
  have F9 := fun_mk (st := s_Clash___init__) l9 c9 k9
  have b9 := F9.binds (ps := ["self", "name"]) fun _ _ _ _ _ _ us hl => match us, hl with | [_, _], _ => rfl
  have F10 := fun_mk (st := s_Doomed___init__) l10 c10 k10
  have b10 := F10.binds (ps := ["self", "first"]) fun _ _ _ _ _ _ us hl => match us, hl with | [_, _], _ => rfl
  have F11 := fun_mk (st := s_Endless___init__) l11 c11 k11
  have b11 := F11.binds (ps := ["self", "name"]) fun _ _ _ _ _ _ us hl => match us, hl with | [_, _], _ => rfl
  have F12 := fun_mk (st := s_Failed___init__) l12 c12 k12
  have b12 := F12.binds (ps := ["self", "word"]) fun _ _ _ _ _ _ us hl => match us, hl with | [_, _], _ => rfl
  have F13 := fun_mk (st := s_Missing___init__) l13 c13 k13
  have b13 := F13.binds (ps := ["self", "mode"]) fun _ _ _ _ _ _ us hl => match us, hl with | [_, _], _ => rfl
  have F14 := fun_mk (st := s_NoCall___init__) l14 c14 k14
  have b14 := F14.binds (ps := ["self", "number"]) fun _ _ _ _ _ _ us hl => match us, hl with | [_, _], _ => rfl
  have F15 := fun_mk (st := s_NoFace___init__) l15 c15 k15
  have b15 := F15.binds (ps := ["self", "face"]) fun _ _ _ _ _ _ us hl => match us, hl with | [_, _], _ => rfl
  have F16 := fun_mk (st := s_NoFate___init__) l16 c16 k16
  have b16 := F16.binds (ps := ["self", "kept"]) fun _ _ _ _ _ _ us hl => match us, hl with | [_, _], _ => rfl
  have F17 := fun_mk (st := s_NoFunction___init__) l17 c17 k17
  have b17 := F17.binds (ps := ["self", "name"]) fun _ _ _ _ _ _ us hl => match us, hl with | [_, _], _ => rfl
  have F18 := fun_mk (st := s_NoRecord___init__) l18 c18 k18
  have b18 := F18.binds (ps := ["self", "record"]) fun _ _ _ _ _ _ us hl => match us, hl with | [_, _], _ => rfl
  have F19 := fun_mk (st := s_NoRow___init__) l19 c19 k19
  have b19 := F19.binds (ps := ["self", "name", "case"]) fun _ _ _ _ _ _ us hl => match us, hl with | [_, _, _], _ => rfl
  have F20 := fun_mk (st := s_NotNow___init__) l20 c20 k20
  have b20 := F20.binds (ps := ["self", "thing"]) fun _ _ _ _ _ _ us hl => match us, hl with | [_, _], _ => rfl
  have F21 := fun_mk (st := s_Present___init__) l21 c21 k21
  have b21 := F21.binds (ps := ["self", "mode"]) fun _ _ _ _ _ _ us hl => match us, hl with | [_, _], _ => rfl
  have F22 := fun_mk (st := s_Refused___init__) l22 c22 k22
  have b22 := F22.binds (ps := ["self"]) fun _ _ _ _ _ _ us hl => match us, hl with | [_], _ => rfl
  have F23 := fun_mk (st := s_TooMany___init__) l23 c23 k23
  have b23 := F23.binds (ps := ["self", "what"]) fun _ _ _ _ _ _ us hl => match us, hl with | [_, _], _ => rfl
  have F24 := fun_mk (st := s_Unknown___init__) l24 c24 k24
  have b24 := F24.binds (ps := ["self", "name"]) fun _ _ _ _ _ _ us hl => match us, hl with | [_, _], _ => rfl
  have F25 := fun_mk (st := s_Unlike___init__) l25 c25 k25
  have b25 := F25.binds (ps := ["self", "name"]) fun _ _ _ _ _ _ us hl => match us, hl with | [_, _], _ => rfl
  have F26 := fun_mk (st := s_Waits___init__) l26 c26 k26
  have b26 := F26.binds (ps := ["self", "record"]) fun _ _ _ _ _ _ us hl => match us, hl with | [_, _], _ => rfl
  have F27 := fun_mk (st := s_law_thing) l27 c27 k27
  have b27 := F27.binds (ps := ["pool"]) fun _ _ _ _ _ _ us hl => match us, hl with | [_], _ => rfl
  have F28 := fun_mk (st := s_law_classes) l28 c28 k28
  have b28 := F28.binds (ps := ["e"]) fun _ _ _ _ _ _ us hl => match us, hl with | [_], _ => rfl
  have F29 := fun_mk (st := s_law_first) l29 c29 k29
  have b29 := F29.binds (ps := ["one", "two"]) fun _ _ _ _ _ _ us hl => match us, hl with | [_, _], _ => rfl
  have F30 := fun_mk (st := s_law_second) l30 c30 k30
  have b30 := F30.binds (ps := ["one", "two"]) fun _ _ _ _ _ _ us hl => match us, hl with | [_, _], _ => rfl
  have F31 := fun_mk (st := s_law_fields) l31 c31 k31
  have b31 := F31.binds (ps := ["e", "k"]) fun _ _ _ _ _ _ us hl => match us, hl with | [_, _], _ => rfl
  have F32 := fun_mk (st := s_law) l32 c32 k32
  refine ⟨PySem.W.fnOf "law" "law" (defArgs s_law) (defBody s_law) (defScope s_law) .none kV32 dc32 pm32 an32 cd32 ct32, fun s v => .of_eq rfl, fun base hbK hbG => ?_⟩
  have O0 : OexC K E0 := ⟨⟨_, _, _, _, _, _, _, _, _, _, _, _, _, _, _, hx0, by rfl⟩, hs0, hb0, ht0, hk0⟩
  have O1 : OexC K E1 := ⟨⟨_, _, _, _, _, _, _, _, _, _, _, _, _, _, _, hx1, by rfl⟩, hs1, hb1, ht1, hk1⟩
  have O2 : OexC K E2 := ⟨⟨_, _, _, _, _, _, _, _, _, _, _, _, _, _, _, hx2, by rfl⟩, hs2, hb2, ht2, hk2⟩
  have O3 : OexC K E3 := ⟨⟨_, _, _, _, _, _, _, _, _, _, _, _, _, _, _, hx3, by rfl⟩, hs3, hb3, ht3, hk3⟩
  have O4 : OexC K E4 := ⟨⟨_, _, _, _, _, _, _, _, _, _, _, _, _, _, _, hx4, by rfl⟩, hs4, hb4, ht4, hk4⟩
  have O5 : OexC K E5 := ⟨⟨_, _, _, _, _, _, _, _, _, _, _, _, _, _, _, hx5, by rfl⟩, hs5, hb5, ht5, hk5⟩
  have O6 : OexC K E6 := ⟨⟨_, _, _, _, _, _, _, _, _, _, _, _, _, _, _, hx6, by rfl⟩, hs6, hb6, ht6, hk6⟩
  have O7 : OexC K E7 := ⟨⟨_, _, _, _, _, _, _, _, _, _, _, _, _, _, _, hx7, by rfl⟩, hs7, hb7, ht7, hk7⟩
  have O8 : OexC K E8 := ⟨⟨_, _, _, _, _, _, _, _, _, _, _, _, _, _, _, hx8, by rfl⟩, hs8, hb8, ht8, hk8⟩
  have O9 : OexC K E9 := ⟨⟨_, _, _, _, _, _, _, _, _, _, _, _, _, _, _, hx9, by rfl⟩, hs9, hb9, ht9, hk9⟩
  have O10 : OexC K E10 := ⟨⟨_, _, _, _, _, _, _, _, _, _, _, _, _, _, _, hx10, by rfl⟩, hs10, hb10, ht10, hk10⟩
  have O11 : OexC K E11 := ⟨⟨_, _, _, _, _, _, _, _, _, _, _, _, _, _, _, hx11, by rfl⟩, hs11, hb11, ht11, hk11⟩
  have O12 : OexC K E12 := ⟨⟨_, _, _, _, _, _, _, _, _, _, _, _, _, _, _, hx12, by rfl⟩, hs12, hb12, ht12, hk12⟩
  have O13 : OexC K E13 := ⟨⟨_, _, _, _, _, _, _, _, _, _, _, _, _, _, _, hx13, by rfl⟩, hs13, hb13, ht13, hk13⟩
  have O14 : OexC K E14 := ⟨⟨_, _, _, _, _, _, _, _, _, _, _, _, _, _, _, hx14, by rfl⟩, hs14, hb14, ht14, hk14⟩
  have O15 : OexC K E15 := ⟨⟨_, _, _, _, _, _, _, _, _, _, _, _, _, _, _, hx15, by rfl⟩, hs15, hb15, ht15, hk15⟩
  have O16 : OexC K E16 := ⟨⟨_, _, _, _, _, _, _, _, _, _, _, _, _, _, _, hx16, by rfl⟩, hs16, hb16, ht16, hk16⟩
  have O17 : OexC K E17 := ⟨⟨_, _, _, _, _, _, _, _, _, _, _, _, _, _, _, hx17, by rfl⟩, hs17, hb17, ht17, hk17⟩
  have O18 : OexC K E18 := ⟨⟨_, _, _, _, _, _, _, _, _, _, _, _, _, _, _, hx18, by rfl⟩, hs18, hb18, ht18, hk18⟩
  have O19 : OexC K E19 := ⟨⟨_, _, _, _, _, _, _, _, _, _, _, _, _, _, _, hx19, by rfl⟩, hs19, hb19, ht19, hk19⟩
  have O20 : OexC K E20 := ⟨⟨_, _, _, _, _, _, _, _, _, _, _, _, _, _, _, hx20, by rfl⟩, hs20, hb20, ht20, hk20⟩
  have O21 : OexC K E21 := ⟨⟨_, _, _, _, _, _, _, _, _, _, _, _, _, _, _, hx21, by rfl⟩, hs21, hb21, ht21, hk21⟩
  have O22 : OexC K E22 := ⟨⟨_, _, _, _, _, _, _, _, _, _, _, _, _, _, _, hx22, by rfl⟩, hs22, hb22, ht22, hk22⟩
  have O23 : OexC K E23 := ⟨⟨_, _, _, _, _, _, _, _, _, _, _, _, _, _, _, hx23, by rfl⟩, hs23, hb23, ht23, hk23⟩
  have O24 : OexC K E24 := ⟨⟨_, _, _, _, _, _, _, _, _, _, _, _, _, _, _, hx24, by rfl⟩, hs24, hb24, ht24, hk24⟩
  have hO : ∀ C ∈ ([E0, E1, E2, E3, E4, E5, E6, E7, E8, E9, E10, E11, E12, E13, E14, E15, E16, E17, E18, E19, E20, E21, E22, E23, E24] : List Addr), OexC K C := by
    intro C hC
    simp only [List.mem_cons, List.not_mem_nil, or_false] at hC
    rcases hC with rfl | rfl | rfl | rfl | rfl | rfl | rfl | rfl | rfl | rfl | rfl | rfl | rfl | rfl | rfl | rfl | rfl | rfl | rfl | rfl | rfl | rfl | rfl | rfl | rfl
    · exact O0
    · exact O1
    · exact O2
    · exact O3
    · exact O4
    · exact O5
    · exact O6
    · exact O7
    · exact O8
    · exact O9
    · exact O10
    · exact O11
    · exact O12
    · exact O13
    · exact O14
    · exact O15
    · exact O16
    · exact O17
    · exact O18
    · exact O19
    · exact O20
    · exact O21
    · exact O22
    · exact O23
    · exact O24
  have hec := ecTab_ok hO htab1
  have hno := noTab_ok htab4
  have n0 : ∀ x ∈ flds, PySem.W.findIn K (.ref E0) x = some none := hno E0 (by simp)
  have c0_ : EcF K E0 := hec E0 (by simp)
  have n1 : ∀ x ∈ flds, PySem.W.findIn K (.ref E1) x = some none := hno E1 (by simp)
  have c1_ : EcF K E1 := hec E1 (by simp)
  have n2 : ∀ x ∈ flds, PySem.W.findIn K (.ref E2) x = some none := hno E2 (by simp)
  have c2_ : EcF K E2 := hec E2 (by simp)
  have n3 : ∀ x ∈ flds, PySem.W.findIn K (.ref E3) x = some none := hno E3 (by simp)
  have c3_ : EcF K E3 := hec E3 (by simp)
  have n4 : ∀ x ∈ flds, PySem.W.findIn K (.ref E4) x = some none := hno E4 (by simp)
  have c4_ : EcF K E4 := hec E4 (by simp)
  have n5 : ∀ x ∈ flds, PySem.W.findIn K (.ref E5) x = some none := hno E5 (by simp)
  have c5_ : EcF K E5 := hec E5 (by simp)
  have n6 : ∀ x ∈ flds, PySem.W.findIn K (.ref E6) x = some none := hno E6 (by simp)
  have c6_ : EcF K E6 := hec E6 (by simp)
  have n7 : ∀ x ∈ flds, PySem.W.findIn K (.ref E7) x = some none := hno E7 (by simp)
  have c7_ : EcF K E7 := hec E7 (by simp)
  have n8 : ∀ x ∈ flds, PySem.W.findIn K (.ref E8) x = some none := hno E8 (by simp)
  have c8_ : EcF K E8 := hec E8 (by simp)
  have n9 : ∀ x ∈ flds, PySem.W.findIn K (.ref E9) x = some none := hno E9 (by simp)
  have c9_ : EcF K E9 := hec E9 (by simp)
  have n10 : ∀ x ∈ flds, PySem.W.findIn K (.ref E10) x = some none := hno E10 (by simp)
  have c10_ : EcF K E10 := hec E10 (by simp)
  have n11 : ∀ x ∈ flds, PySem.W.findIn K (.ref E11) x = some none := hno E11 (by simp)
  have c11_ : EcF K E11 := hec E11 (by simp)
  have n12 : ∀ x ∈ flds, PySem.W.findIn K (.ref E12) x = some none := hno E12 (by simp)
  have c12_ : EcF K E12 := hec E12 (by simp)
  have n13 : ∀ x ∈ flds, PySem.W.findIn K (.ref E13) x = some none := hno E13 (by simp)
  have c13_ : EcF K E13 := hec E13 (by simp)
  have n14 : ∀ x ∈ flds, PySem.W.findIn K (.ref E14) x = some none := hno E14 (by simp)
  have c14_ : EcF K E14 := hec E14 (by simp)
  have n15 : ∀ x ∈ flds, PySem.W.findIn K (.ref E15) x = some none := hno E15 (by simp)
  have c15_ : EcF K E15 := hec E15 (by simp)
  have n16 : ∀ x ∈ flds, PySem.W.findIn K (.ref E16) x = some none := hno E16 (by simp)
  have c16_ : EcF K E16 := hec E16 (by simp)
  have n17 : ∀ x ∈ flds, PySem.W.findIn K (.ref E17) x = some none := hno E17 (by simp)
  have c17_ : EcF K E17 := hec E17 (by simp)
  have n18 : ∀ x ∈ flds, PySem.W.findIn K (.ref E18) x = some none := hno E18 (by simp)
  have c18_ : EcF K E18 := hec E18 (by simp)
  have n19 : ∀ x ∈ flds, PySem.W.findIn K (.ref E19) x = some none := hno E19 (by simp)
  have c19_ : EcF K E19 := hec E19 (by simp)
  have n20 : ∀ x ∈ flds, PySem.W.findIn K (.ref E20) x = some none := hno E20 (by simp)
  have c20_ : EcF K E20 := hec E20 (by simp)
  have n21 : ∀ x ∈ flds, PySem.W.findIn K (.ref E21) x = some none := hno E21 (by simp)
  have c21_ : EcF K E21 := hec E21 (by simp)
  have n22 : ∀ x ∈ flds, PySem.W.findIn K (.ref E22) x = some none := hno E22 (by simp)
  have c22_ : EcF K E22 := hec E22 (by simp)
  have n23 : ∀ x ∈ flds, PySem.W.findIn K (.ref E23) x = some none := hno E23 (by simp)
  have c23_ : EcF K E23 := hec E23 (by simp)
  have n24 : ∀ x ∈ flds, PySem.W.findIn K (.ref E24) x = some none := hno E24 (by simp)
  have c24_ : EcF K E24 := hec E24 (by simp)
  have D_law_pool : Df l.prog w K mg base 1 "_law_pool" ["script", "at"] (spPool K) := ⟨f0, _, ok_pool F0 T, PySem.W.mg_of X G a0, k0, b0⟩
  have D_law_draw : Df l.prog w K mg base 1 "_law_draw" ["pool", "many"] spDraw := ⟨f1, _, ok_draw F1 T, PySem.W.mg_of X G a1, k1, b1⟩
  have D_law_word : Df l.prog w K mg base 2 "_law_word" ["pool"] spWord := ⟨f2, _, ok_word F2 T D_law_draw, PySem.W.mg_of X G a2, k2, b2⟩
  have e0 : EDf l.prog w K mg base 1 "BadChange" E0 "index" (fun v => [("index", v)]) := ⟨f3, _, ⟨PySem.W.mg_of X G hg0, O0, c0_.xf, a3, t3⟩, ok_BadChange F3 O0 n0, b3⟩
  have e1 : EDf l.prog w K mg base 1 "BadLibrary" E1 "line" (fun v => [("line", v)]) := ⟨f4, _, ⟨PySem.W.mg_of X G hg1, O1, c1_.xf, a4, t4⟩, ok_BadLibrary F4 O1 n1, b4⟩
  have e2 : EDf l.prog w K mg base 1 "BadMode" E2 "mode" (fun v => [("mode", v)]) := ⟨f5, _, ⟨PySem.W.mg_of X G hg2, O2, c2_.xf, a5, t5⟩, ok_BadMode F5 O2 n2, b5⟩
  have e3 : EDf l.prog w K mg base 1 "BadMove" E3 "thing" (fun v => [("thing", v)]) := ⟨f6, _, ⟨PySem.W.mg_of X G hg3, O3, c3_.xf, a6, t6⟩, ok_BadMove F6 O3 n3, b6⟩
  have e4 : EDf l.prog w K mg base 1 "BadRecords" E4 "record" (fun v => [("record", v)]) := ⟨f7, _, ⟨PySem.W.mg_of X G hg4, O4, c4_.xf, a7, t7⟩, ok_BadRecords F7 O4 n4, b7⟩
  have e5 : EDf l.prog w K mg base 1 "BadWord" E5 "word" (fun v => [("word", v)]) := ⟨f8, _, ⟨PySem.W.mg_of X G hg5, O5, c5_.xf, a8, t8⟩, ok_BadWord F8 O5 n5, b8⟩
  have e6 : EDf l.prog w K mg base 1 "Clash" E6 "name" (fun v => [("name", v)]) := ⟨f9, _, ⟨PySem.W.mg_of X G hg6, O6, c6_.xf, a9, t9⟩, ok_Clash F9 O6 n6, b9⟩
  have e7 : EDf l.prog w K mg base 1 "Doomed" E7 "first" (fun v => [("word", .str "doomed"), ("first", v)]) := ⟨f10, _, ⟨PySem.W.mg_of X G hg7, O7, c7_.xf, a10, t10⟩, ok_Doomed F10 O7 n7, b10⟩
  have e8 : EDf l.prog w K mg base 1 "Endless" E8 "name" (fun v => [("name", v)]) := ⟨f11, _, ⟨PySem.W.mg_of X G hg8, O8, c8_.xf, a11, t11⟩, ok_Endless F11 O8 n8, b11⟩
  have e9 : EDf l.prog w K mg base 1 "Failed" E9 "word" (fun v => [("word", v)]) := ⟨f12, _, ⟨PySem.W.mg_of X G hg9, O9, c9_.xf, a12, t12⟩, ok_Failed F12 O9 n9, b12⟩
  have e10 : EDf l.prog w K mg base 1 "Missing" E10 "mode" (fun v => [("word", .str "missing"), ("mode", v)]) := ⟨f13, _, ⟨PySem.W.mg_of X G hg10, O10, c10_.xf, a13, t13⟩, ok_Missing F13 O10 n10, b13⟩
  have e12 : EDf l.prog w K mg base 1 "NoCall" E12 "number" (fun v => [("number", v)]) := ⟨f14, _, ⟨PySem.W.mg_of X G hg12, O12, c12_.xf, a14, t14⟩, ok_NoCall F14 O12 n12, b14⟩
  have e13 : EDf l.prog w K mg base 1 "NoFace" E13 "face" (fun v => [("face", v)]) := ⟨f15, _, ⟨PySem.W.mg_of X G hg13, O13, c13_.xf, a15, t15⟩, ok_NoFace F15 O13 n13, b15⟩
  have e14 : EDf l.prog w K mg base 1 "NoFate" E14 "kept" (fun v => [("kept", v)]) := ⟨f16, _, ⟨PySem.W.mg_of X G hg14, O14, c14_.xf, a16, t16⟩, ok_NoFate F16 O14 n14, b16⟩
  have e15 : EDf l.prog w K mg base 1 "NoFunction" E15 "name" (fun v => [("name", v)]) := ⟨f17, _, ⟨PySem.W.mg_of X G hg15, O15, c15_.xf, a17, t17⟩, ok_NoFunction F17 O15 n15, b17⟩
  have e16 : EDf l.prog w K mg base 1 "NoRecord" E16 "record" (fun v => [("record", v)]) := ⟨f18, _, ⟨PySem.W.mg_of X G hg16, O16, c16_.xf, a18, t18⟩, ok_NoRecord F18 O16 n16, b18⟩
  have e17 : EDf2 l.prog w K mg base 1 "NoRow" E17 "name" "case" (fun v u => [("case", u), ("name", v)]) := ⟨f19, _, ⟨PySem.W.mg_of X G hg17, O17, c17_.xf, a19, t19⟩, ok_NoRow F19 O17 n17, b19, ⟨_, kbn_of F19 (ps := ["self", "name", "case"]) 1 ["case", "name"] (fun us ws => us ++ ws.reverse) (fun r1 r2 => r1.append (vals_rev r2)) (fun _ _ _ _ _ _ us ws h1 h2 => match us, ws, h1, h2 with | [_], [_, _], _, _ => rfl)⟩⟩
  have e18 : EDf l.prog w K mg base 1 "NotNow" E18 "thing" (fun v => [("thing", v)]) := ⟨f20, _, ⟨PySem.W.mg_of X G hg18, O18, c18_.xf, a20, t20⟩, ok_NotNow F20 O18 n18, b20⟩
  have e19 : EDf l.prog w K mg base 1 "Present" E19 "mode" (fun v => [("word", .str "present"), ("mode", v)]) := ⟨f21, _, ⟨PySem.W.mg_of X G hg19, O19, c19_.xf, a21, t21⟩, ok_Present F21 O19 n19, b21⟩
  have e20 : EDf0 l.prog w K mg base 1 "Refused" E20 [("word", .str "refused")] := ⟨f22, _, ⟨PySem.W.mg_of X G hg20, O20, c20_.xf, a22, t22⟩, ok_Refused F22 O20 n20, b22⟩
  have e21 : EDf l.prog w K mg base 1 "TooMany" E21 "what" (fun v => [("what", v)]) := ⟨f23, _, ⟨PySem.W.mg_of X G hg21, O21, c21_.xf, a23, t23⟩, ok_TooMany F23 O21 n21, b23⟩
  have e22 : EDf l.prog w K mg base 1 "Unknown" E22 "name" (fun v => [("name", v)]) := ⟨f24, _, ⟨PySem.W.mg_of X G hg22, O22, c22_.xf, a24, t24⟩, ok_Unknown F24 O22 n22, b24⟩
  have e23 : EDf l.prog w K mg base 1 "Unlike" E23 "name" (fun v => [("name", v)]) := ⟨f25, _, ⟨PySem.W.mg_of X G hg23, O23, c23_.xf, a25, t25⟩, ok_Unlike F25 O23 n23, b25⟩
  have e24 : EDf l.prog w K mg base 1 "Waits" E24 "record" (fun v => [("word", .str "waits"), ("record", v)]) := ⟨f26, _, ⟨PySem.W.mg_of X G hg24, O24, c24_.xf, a26, t26⟩, ok_Waits F26 O24 n24, b26⟩
  have k24 : EDfK l.prog w K mg base 1 "Waits" E24 "record" (fun v => [("word", .str "waits"), ("record", v)]) := ⟨f26, _, ⟨PySem.W.mg_of X G hg24, O24, c24_.xf, a26, t26⟩, ok_Waits F26 O24 n24, ⟨_, kbn_of F26 (ps := ["self", "record"]) 1 ["record"] (fun us ws => us ++ ws) (fun r1 r2 => r1.append r2) (fun _ _ _ _ _ _ us ws h1 h2 => match us, ws, h1, h2 with | [_], [_], _, _ => rfl)⟩⟩
  have L : E88 l.prog w K mg base (clOf [E0, E1, E2, E3, E4, E5, E6, E7, E8, E9, E10, E11, E12, E13, E14, E15, E16, E17, E18, E19, E20, E21, E22, E23, E24]) CI := {g0 := PySem.W.mg_of X G hg0, e0 := e0, g1 := PySem.W.mg_of X G hg1, e1 := e1, g2 := PySem.W.mg_of X G hg2, e2 := e2, g3 := PySem.W.mg_of X G hg3, e3 := e3, g4 := PySem.W.mg_of X G hg4, e4 := e4, g5 := PySem.W.mg_of X G hg5, e5 := e5, g6 := PySem.W.mg_of X G hg6, e6 := e6, g7 := PySem.W.mg_of X G hg7, e7 := e7, g8 := PySem.W.mg_of X G hg8, e8 := e8, g9 := PySem.W.mg_of X G hg9, e9 := e9, g10 := PySem.W.mg_of X G hg10, e10 := e10, g11 := PySem.W.mg_of X G hg11, e11 := ⟨hx11b, hk11⟩, g12 := PySem.W.mg_of X G hg12, e12 := e12, g13 := PySem.W.mg_of X G hg13, e13 := e13, g14 := PySem.W.mg_of X G hg14, e14 := e14, g15 := PySem.W.mg_of X G hg15, e15 := e15, g16 := PySem.W.mg_of X G hg16, e16 := e16, g17 := PySem.W.mg_of X G hg17, e17 := e17, g18 := PySem.W.mg_of X G hg18, e18 := e18, g19 := PySem.W.mg_of X G hg19, e19 := e19, g20 := PySem.W.mg_of X G hg20, e20 := e20, g21 := PySem.W.mg_of X G hg21, e21 := e21, g22 := PySem.W.mg_of X G hg22, e22 := e22, g23 := PySem.W.mg_of X G hg23, e23 := e23, g24 := PySem.W.mg_of X G hg24, e24 := e24, gI := PySem.W.mg_of X G hgI, ec := fun k hk => hec _ (clOf_mem (by simpa using hk)), eg := ⟨hehn, hetk⟩, kit := fun k j hk hj => kitTab_ok htab2 hk hj, kI := fun k hk => (topTab_ok htab3 _ (clOf_mem (by simpa using hk))).1, kV := fun k hk => (topTab_ok htab3 _ (clOf_mem (by simpa using hk))).2, no := fun k hk => hno _ (clOf_mem (by simpa using hk)), k24 := k24}
  have D_law_thing : Df l.prog w K mg base 3 "_law_thing" ["pool"] (spThing K) := ⟨f27, _, ok_thing F27 T D_law_draw D_law_word, PySem.W.mg_of X G a27, k27, b27⟩
  have D_law_classes : Df l.prog w K mg base 2 "_law_classes" ["e"] (spClasses (clOf [E0, E1, E2, E3, E4, E5, E6, E7, E8, E9, E10, E11, E12, E13, E14, E15, E16, E17, E18, E19, E20, E21, E22, E23, E24])) := ⟨f28, _, ok_classes F28 T L, PySem.W.mg_of X G a28, k28, b28⟩
  have D_law_first : Df l.prog w K mg base 3 "_law_first" ["one", "two"] (spPairs (clOf [E0, E1, E2, E3, E4, E5, E6, E7, E8, E9, E10, E11, E12, E13, E14, E15, E16, E17, E18, E19, E20, E21, E22, E23, E24]) 0 12) := ⟨f29, _, ok_law_first F29 T L, PySem.W.mg_of X G a29, k29, b29⟩
  have D_law_second : Df l.prog w K mg base 3 "_law_second" ["one", "two"] (spPairs (clOf [E0, E1, E2, E3, E4, E5, E6, E7, E8, E9, E10, E11, E12, E13, E14, E15, E16, E17, E18, E19, E20, E21, E22, E23, E24]) 12 13) := ⟨f30, _, ok_law_second F30 T L, PySem.W.mg_of X G a30, k30, b30⟩
  have D_law_fields : Df l.prog w K mg base 1 "_law_fields" ["e", "k"] (spFields (clOf [E0, E1, E2, E3, E4, E5, E6, E7, E8, E9, E10, E11, E12, E13, E14, E15, E16, E17, E18, E19, E20, E21, E22, E23, E24])) := ⟨f31, _, ok_fields F31 T L, PySem.W.mg_of X G a31, k31, b31⟩
  exact ok_law88 F32 T L D_law_pool D_law_thing D_law_classes D_law_first D_law_second D_law_fields
end IC
open PySem PySem.W PyProof.Rows
set_option maxRecDepth 100000 in
set_option maxHeartbeats 0 in
theorem PySem.Challenge.cw_innercommits_k88_errors_made_by_hand_holds : PySem.Challenge.rw_innercommits_k88_errors_made_by_hand.Holds := by
  w_on; o_law; k_head; (case hw => w_witness2)
  k_fill
  refine IC.walkG (l := PySem.Challenge.rw_innercommits_k88_errors_made_by_hand) (k := 8) rfl rfl ⟨rfl, by decide, by decide⟩ (fun w h Y => PySem.W.kIn_of Y) ?F
  case F =>
    intro w mg fa h KX G hmg
    refine' IC.all_mk KX G hmg ?a0 ?l0 ?c0 ?k0 ?a1 ?l1 ?c1 ?k1 ?a2 ?l2 ?c2 ?k2 ?a3 ?l3 ?c3 ?k3 ?t3 ?a4 ?l4 ?c4 ?k4 ?t4 ?a5 ?l5 ?c5 ?k5 ?t5 ?a6 ?l6 ?c6 ?k6 ?t6 ?a7 ?l7 ?c7 ?k7 ?t7 ?a8 ?l8 ?c8 ?k8 ?t8 ?a9 ?l9 ?c9 ?k9 ?t9 ?a10 ?l10 ?c10 ?k10 ?t10 ?a11 ?l11 ?c11 ?k11 ?t11 ?a12 ?l12 ?c12 ?k12 ?t12 ?a13 ?l13 ?c13 ?k13 ?t13 ?a14 ?l14 ?c14 ?k14 ?t14 ?a15 ?l15 ?c15 ?k15 ?t15 ?a16 ?l16 ?c16 ?k16 ?t16 ?a17 ?l17 ?c17 ?k17 ?t17 ?a18 ?l18 ?c18 ?k18 ?t18 ?a19 ?l19 ?c19 ?k19 ?t19 ?a20 ?l20 ?c20 ?k20 ?t20 ?a21 ?l21 ?c21 ?k21 ?t21 ?a22 ?l22 ?c22 ?k22 ?t22 ?a23 ?l23 ?c23 ?k23 ?t23 ?a24 ?l24 ?c24 ?k24 ?t24 ?a25 ?l25 ?c25 ?k25 ?t25 ?a26 ?l26 ?c26 ?k26 ?t26 ?a27 ?l27 ?c27 ?k27 ?a28 ?l28 ?c28 ?k28 ?a29 ?l29 ?c29 ?k29 ?a30 ?l30 ?c30 ?k30 ?a31 ?l31 ?c31 ?k31 ?a32 ?l32 ?c32 ?k32 ?z_int ?z_len ?z_abs ?z_range ?z_max ?z_min ?z_isi ?z_repr ?z_VE ?hgI ?hg0 ?hx0 ?hk0 ?ht0 ?hs0 ?hb0 ?hg1 ?hx1 ?hk1 ?ht1 ?hs1 ?hb1 ?hg2 ?hx2 ?hk2 ?ht2 ?hs2 ?hb2 ?hg3 ?hx3 ?hk3 ?ht3 ?hs3 ?hb3 ?hg4 ?hx4 ?hk4 ?ht4 ?hs4 ?hb4 ?hg5 ?hx5 ?hk5 ?ht5 ?hs5 ?hb5 ?hg6 ?hx6 ?hk6 ?ht6 ?hs6 ?hb6 ?hg7 ?hx7 ?hk7 ?ht7 ?hs7 ?hb7 ?hg8 ?hx8 ?hk8 ?ht8 ?hs8 ?hb8 ?hg9 ?hx9 ?hk9 ?ht9 ?hs9 ?hb9 ?hg10 ?hx10 ?hk10 ?ht10 ?hs10 ?hb10 ?hg11 ?hx11 ?hk11 ?ht11 ?hs11 ?hb11 ?hg12 ?hx12 ?hk12 ?ht12 ?hs12 ?hb12 ?hg13 ?hx13 ?hk13 ?ht13 ?hs13 ?hb13 ?hg14 ?hx14 ?hk14 ?ht14 ?hs14 ?hb14 ?hg15 ?hx15 ?hk15 ?ht15 ?hs15 ?hb15 ?hg16 ?hx16 ?hk16 ?ht16 ?hs16 ?hb16 ?hg17 ?hx17 ?hk17 ?ht17 ?hs17 ?hb17 ?hg18 ?hx18 ?hk18 ?ht18 ?hs18 ?hb18 ?hg19 ?hx19 ?hk19 ?ht19 ?hs19 ?hb19 ?hg20 ?hx20 ?hk20 ?ht20 ?hs20 ?hb20 ?hg21 ?hx21 ?hk21 ?ht21 ?hs21 ?hb21 ?hg22 ?hx22 ?hk22 ?ht22 ?hs22 ?hb22 ?hg23 ?hx23 ?hk23 ?ht23 ?hs23 ?hb23 ?hg24 ?hx24 ?hk24 ?ht24 ?hs24 ?hb24 ?hx11b ?hehn ?hetk ?htab1 ?htab2 ?htab3 ?htab4
    (case hgI => k_is)
    (case hg0 => k_is)
    (case hx0 => k_is)
    (case hk0 => k_is)
    (case ht0 => k_is)
    (case hs0 => k_is)
    (case hb0 => k_is)
    (case hg1 => k_is)
    (case hx1 => k_is)
    (case hk1 => k_is)
    (case ht1 => k_is)
    (case hs1 => k_is)
    (case hb1 => k_is)
    (case hg2 => k_is)
    (case hx2 => k_is)
    (case hk2 => k_is)
    (case ht2 => k_is)
    (case hs2 => k_is)
    (case hb2 => k_is)
    (case hg3 => k_is)
    (case hx3 => k_is)
    (case hk3 => k_is)
    (case ht3 => k_is)
    (case hs3 => k_is)
    (case hb3 => k_is)
    (case hg4 => k_is)
    (case hx4 => k_is)
    (case hk4 => k_is)
    (case ht4 => k_is)
    (case hs4 => k_is)
    (case hb4 => k_is)
    (case hg5 => k_is)
    (case hx5 => k_is)
    (case hk5 => k_is)
    (case ht5 => k_is)
    (case hs5 => k_is)
    (case hb5 => k_is)
    (case hg6 => k_is)
    (case hx6 => k_is)
    (case hk6 => k_is)
    (case ht6 => k_is)
    (case hs6 => k_is)
    (case hb6 => k_is)
    (case hg7 => k_is)
    (case hx7 => k_is)
    (case hk7 => k_is)
    (case ht7 => k_is)
    (case hs7 => k_is)
    (case hb7 => k_is)
    (case hg8 => k_is)
    (case hx8 => k_is)
    (case hk8 => k_is)
    (case ht8 => k_is)
    (case hs8 => k_is)
    (case hb8 => k_is)
    (case hg9 => k_is)
    (case hx9 => k_is)
    (case hk9 => k_is)
    (case ht9 => k_is)
    (case hs9 => k_is)
    (case hb9 => k_is)
    (case hg10 => k_is)
    (case hx10 => k_is)
    (case hk10 => k_is)
    (case ht10 => k_is)
    (case hs10 => k_is)
    (case hb10 => k_is)
    (case hg11 => k_is)
    (case hx11 => k_is)
    (case hk11 => k_is)
    (case ht11 => k_is)
    (case hs11 => k_is)
    (case hb11 => k_is)
    (case hg12 => k_is)
    (case hx12 => k_is)
    (case hk12 => k_is)
    (case ht12 => k_is)
    (case hs12 => k_is)
    (case hb12 => k_is)
    (case hg13 => k_is)
    (case hx13 => k_is)
    (case hk13 => k_is)
    (case ht13 => k_is)
    (case hs13 => k_is)
    (case hb13 => k_is)
    (case hg14 => k_is)
    (case hx14 => k_is)
    (case hk14 => k_is)
    (case ht14 => k_is)
    (case hs14 => k_is)
    (case hb14 => k_is)
    (case hg15 => k_is)
    (case hx15 => k_is)
    (case hk15 => k_is)
    (case ht15 => k_is)
    (case hs15 => k_is)
    (case hb15 => k_is)
    (case hg16 => k_is)
    (case hx16 => k_is)
    (case hk16 => k_is)
    (case ht16 => k_is)
    (case hs16 => k_is)
    (case hb16 => k_is)
    (case hg17 => k_is)
    (case hx17 => k_is)
    (case hk17 => k_is)
    (case ht17 => k_is)
    (case hs17 => k_is)
    (case hb17 => k_is)
    (case hg18 => k_is)
    (case hx18 => k_is)
    (case hk18 => k_is)
    (case ht18 => k_is)
    (case hs18 => k_is)
    (case hb18 => k_is)
    (case hg19 => k_is)
    (case hx19 => k_is)
    (case hk19 => k_is)
    (case ht19 => k_is)
    (case hs19 => k_is)
    (case hb19 => k_is)
    (case hg20 => k_is)
    (case hx20 => k_is)
    (case hk20 => k_is)
    (case ht20 => k_is)
    (case hs20 => k_is)
    (case hb20 => k_is)
    (case hg21 => k_is)
    (case hx21 => k_is)
    (case hk21 => k_is)
    (case ht21 => k_is)
    (case hs21 => k_is)
    (case hb21 => k_is)
    (case hg22 => k_is)
    (case hx22 => k_is)
    (case hk22 => k_is)
    (case ht22 => k_is)
    (case hs22 => k_is)
    (case hb22 => k_is)
    (case hg23 => k_is)
    (case hx23 => k_is)
    (case hk23 => k_is)
    (case ht23 => k_is)
    (case hs23 => k_is)
    (case hb23 => k_is)
    (case hg24 => k_is)
    (case hx24 => k_is)
    (case hk24 => k_is)
    (case ht24 => k_is)
    (case hs24 => k_is)
    (case hb24 => k_is)
    (case hx11b => k_exc)
    (case hehn => k_is)
    (case hetk => k_is)
    (case htab1 => kernel_rfl)
    (case htab2 => kernel_rfl)
    (case htab3 => kernel_rfl)
    (case htab4 => kernel_rfl)
    (case a0 => k_is)
    (case l0 => k_is)
    (case c0 => k_is)
    (case k0 => k_is)
    (case a1 => k_is)
    (case l1 => k_is)
    (case c1 => k_is)
    (case k1 => k_is)
    (case a2 => k_is)
    (case l2 => k_is)
    (case c2 => k_is)
    (case k2 => k_is)
    (case a3 => k_is)
    (case l3 => k_is)
    (case c3 => k_is)
    (case k3 => k_is)
    (case t3 => k_is)
    (case a4 => k_is)
    (case l4 => k_is)
    (case c4 => k_is)
    (case k4 => k_is)
    (case t4 => k_is)
    (case a5 => k_is)
    (case l5 => k_is)
    (case c5 => k_is)
    (case k5 => k_is)
    (case t5 => k_is)
    (case a6 => k_is)
    (case l6 => k_is)
    (case c6 => k_is)
    (case k6 => k_is)
    (case t6 => k_is)
    (case a7 => k_is)
    (case l7 => k_is)
    (case c7 => k_is)
    (case k7 => k_is)
    (case t7 => k_is)
    (case a8 => k_is)
    (case l8 => k_is)
    (case c8 => k_is)
    (case k8 => k_is)
    (case t8 => k_is)
    (case a9 => k_is)
    (case l9 => k_is)
    (case c9 => k_is)
    (case k9 => k_is)
    (case t9 => k_is)
    (case a10 => k_is)
    (case l10 => k_is)
    (case c10 => k_is)
    (case k10 => k_is)
    (case t10 => k_is)
    (case a11 => k_is)
    (case l11 => k_is)
    (case c11 => k_is)
    (case k11 => k_is)
    (case t11 => k_is)
    (case a12 => k_is)
    (case l12 => k_is)
    (case c12 => k_is)
    (case k12 => k_is)
    (case t12 => k_is)
    (case a13 => k_is)
    (case l13 => k_is)
    (case c13 => k_is)
    (case k13 => k_is)
    (case t13 => k_is)
    (case a14 => k_is)
    (case l14 => k_is)
    (case c14 => k_is)
    (case k14 => k_is)
    (case t14 => k_is)
    (case a15 => k_is)
    (case l15 => k_is)
    (case c15 => k_is)
    (case k15 => k_is)
    (case t15 => k_is)
    (case a16 => k_is)
    (case l16 => k_is)
    (case c16 => k_is)
    (case k16 => k_is)
    (case t16 => k_is)
    (case a17 => k_is)
    (case l17 => k_is)
    (case c17 => k_is)
    (case k17 => k_is)
    (case t17 => k_is)
    (case a18 => k_is)
    (case l18 => k_is)
    (case c18 => k_is)
    (case k18 => k_is)
    (case t18 => k_is)
    (case a19 => k_is)
    (case l19 => k_is)
    (case c19 => k_is)
    (case k19 => k_is)
    (case t19 => k_is)
    (case a20 => k_is)
    (case l20 => k_is)
    (case c20 => k_is)
    (case k20 => k_is)
    (case t20 => k_is)
    (case a21 => k_is)
    (case l21 => k_is)
    (case c21 => k_is)
    (case k21 => k_is)
    (case t21 => k_is)
    (case a22 => k_is)
    (case l22 => k_is)
    (case c22 => k_is)
    (case k22 => k_is)
    (case t22 => k_is)
    (case a23 => k_is)
    (case l23 => k_is)
    (case c23 => k_is)
    (case k23 => k_is)
    (case t23 => k_is)
    (case a24 => k_is)
    (case l24 => k_is)
    (case c24 => k_is)
    (case k24 => k_is)
    (case t24 => k_is)
    (case a25 => k_is)
    (case l25 => k_is)
    (case c25 => k_is)
    (case k25 => k_is)
    (case t25 => k_is)
    (case a26 => k_is)
    (case l26 => k_is)
    (case c26 => k_is)
    (case k26 => k_is)
    (case t26 => k_is)
    (case a27 => k_is)
    (case l27 => k_is)
    (case c27 => k_is)
    (case k27 => k_is)
    (case a28 => k_is)
    (case l28 => k_is)
    (case c28 => k_is)
    (case k28 => k_is)
    (case a29 => k_is)
    (case l29 => k_is)
    (case c29 => k_is)
    (case k29 => k_is)
    (case a30 => k_is)
    (case l30 => k_is)
    (case c30 => k_is)
    (case k30 => k_is)
    (case a31 => k_is)
    (case l31 => k_is)
    (case c31 => k_is)
    (case k31 => k_is)
    (case a32 => k_is)
    (case l32 => k_is)
    (case c32 => k_is)
    (case k32 => k_is)
    (case z_int => k_is)
    (case z_len => k_is)
    (case z_abs => k_is)
    (case z_range => k_is)
    (case z_max => k_is)
    (case z_min => k_is)
    (case z_isi => k_is)
    (case z_repr => k_is)
    (case z_VE => k_is)
#print axioms PySem.Challenge.cw_innercommits_k88_errors_made_by_hand_holds
