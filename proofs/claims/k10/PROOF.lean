import PyProof.Rows.All
import Wide.All
import OpenK.AllK
import Wide.FinOn
import PyProof.EqAt
import PyProof.EqKinds
import PyProof.TupleCall
import HandS.ForMost
import HandS.ForExc
import HandS.Evl
import HandS.Codes
import HandS.IsInst
import HandS.Property
import HandS.Style
import HandS.RevRange
import HandS.Nested
import HandS.Flow
import HandS.ExcIs
import HandS.RaiseMore
import HandS.FStr
import HandS.Property
import HandS.Nested
import HandS.RevRange
import HandS.EndTab
import HandS.ExcValue
import HandS.ExcInit
import HandS.FStrTup
import HandS.Walk
import HandS.Dict
import HandS.Text
import HandS.More
import HandS.Defaults
import HandS.Deep
import HandS.DeepEq
import HandS.SetFor
import HandS.SortInts
import HandS.Strs
import KE.KExcIs
import KE.KExcSuper
import PyProof.Rows.RegStrFacts
import KE.DataFind
import PySem.Challenge.RW_turnstile_k10_whole_earliest
set_option Elab.async false
set_option linter.all false
set_option maxRecDepth 100000
set_option maxHeartbeats 1000000
namespace Tk
open PySem PySem.Spec PyProof.Rows L2 Evl
/-! Big steps over the readings: what a block hands back, or with which slots it falls through; the heap only grows. -/
def Rt (t : TS) (σ : L2.St) (H : Hp) (v : V) : Prop := ∀ H1, Ex H H1 → ∀ D : Ends, (∀ H2, Ex H1 H2 → D.rt v H2) → t D σ H1
def Nx (t : TS) (σ : L2.St) (H : Hp) (σ' : L2.St) : Prop := ∀ H1, Ex H H1 → ∀ D : Ends, (∀ H2, Ex H1 H2 → D.nx σ' H2) → t D σ H1
/-- .. a value by what is true of it and the heap -/
def RtW (t : TS) (σ : L2.St) (H : Hp) (W : V → Hp → Prop) : Prop := ∀ H1, Ex H H1 → ∀ D : Ends, (∀ v H2, Ex H1 H2 → W v H2 → D.rt v H2) → t D σ H1
def EvW (te : TE) (σ : L2.St) (H : Hp) (W : V → Hp → Prop) : Prop := ∀ H1, Ex H H1 → ∀ Q : VK, (∀ v H2, Ex H1 H2 → W v H2 → Q v H2) → te σ H1 Q
section
variable {σ σ' σ'' : L2.St} {H H' : Hp} {v x y z : V} {te ta tb : TE} {t u tw tz : TS} {c c2 : TT} {b : Bool} {W : V → Hp → Prop} {K : PySem.W.Frag} {r : R2}
theorem Rt.mono (e : Ex H H') (h : Rt t σ H v) : Rt t σ H' v := fun H1 a D q => h H1 (e.trans a) D q
theorem Nx.mono (e : Ex H H') (h : Nx t σ H σ') : Nx t σ H' σ' := fun H1 a D q => h H1 (e.trans a) D q
theorem Rt.w (h : Rt t σ H v) (hw : ∀ H1, Ex H H1 → W v H1) : RtW t σ H W := fun H1 e D q => h H1 e D fun H2 e2 => q v H2 e2 (hw H2 (e.trans e2))
theorem Rt.is (h : Rt t σ H x) (e : x = y) : Rt t σ H y := e ▸ h
theorem Nx.is (h : Nx t σ H σ') (e : σ' = σ'') : Nx t σ H σ'' := e ▸ h
theorem rt_ret (h : Ev te σ H v) : Rt (tRet te) σ H v := fun H1 e D q => h H1 e _ fun H2 e2 => q H2 e2
theorem rt_retN : Rt tRetN σ H .non := fun H1 _ D q => q H1 (Ex.refl H1)
theorem rtw_ret (h : EvW te σ H W) : RtW (tRet te) σ H W := fun H1 e D q => h H1 e _ fun v H2 e2 w => q v H2 e2 w
theorem rt_seq (h : Nx t σ H σ') (k : Rt u σ' H v) : Rt (tSeq t u) σ H v := fun H1 e D q => h H1 e { D with nx := u D } fun H2 e2 => k H2 (e.trans e2) D fun H3 e3 => q H3 (e2.trans e3)
theorem rtw_seq (h : Nx t σ H σ') (k : RtW u σ' H W) : RtW (tSeq t u) σ H W := fun H1 e D q => h H1 e { D with nx := u D } fun H2 e2 => k H2 (e.trans e2) D fun v H3 e3 w => q v H3 (e2.trans e3) w
theorem rt_now (h : Rt t σ H v) : Rt (tSeq t u) σ H v := fun H1 e D q => h H1 e { D with nx := u D } q
theorem rtw_now (h : RtW t σ H W) : RtW (tSeq t u) σ H W := fun H1 e D q => h H1 e { D with nx := u D } q
theorem nx_seq (h : Nx t σ H σ') (k : Nx u σ' H σ'') : Nx (tSeq t u) σ H σ'' := fun H1 e D q => h H1 e { D with nx := u D } fun H2 e2 => k H2 (e.trans e2) D fun H3 e3 => q H3 (e2.trans e3)
theorem nx_next : Nx tNext σ H σ := fun H1 _ D q => q H1 (Ex.refl H1)
theorem nx_asg {i : Nat} (h : Ev te σ H v) : Nx (tAsg te (gName i)) σ H (σ.set i (some v)) := fun H1 e D q => h H1 e _ fun H2 e2 => q H2 e2
theorem nx_drop (h : Ev te σ H v) : Nx (tDrop te) σ H σ := fun H1 e D q => h H1 e _ fun H2 e2 => q H2 e2
theorem nx_aug {i : Nat} {f : Int → Int → Int} {a d : Int} (hx : σ[i]? = some (some (.int a))) (h : Ev te σ H (.int d)) : Nx (tAug i te (ipI f)) σ H (σ.set i (some (.int (f a d)))) := fun H1 e D q =>
  ⟨.int a, hx, h H1 e _ fun H2 e2 => ⟨a, d, rfl, rfl, q H2 e2⟩⟩
theorem rt_if (h : EvT c σ H b) (h1 : b = true → Rt t σ H v) (h2 : b = false → Rt u σ H v) : Rt (tIfS c t u) σ H v := fun H1 e D q => h H1 e _ fun H2 e2 => by
  cases b with
  | true =>
    show t D σ H2
    exact h1 rfl H2 (e.trans e2) D fun H3 e3 => q H3 (e2.trans e3)
  | false =>
    show u D σ H2
    exact h2 rfl H2 (e.trans e2) D fun H3 e3 => q H3 (e2.trans e3)
theorem rtw_if (h : EvT c σ H b) (h1 : b = true → RtW t σ H W) (h2 : b = false → RtW u σ H W) : RtW (tIfS c t u) σ H W := fun H1 e D q => h H1 e _ fun H2 e2 => by
  cases b with
  | true =>
    show t D σ H2
    exact h1 rfl H2 (e.trans e2) D fun v H3 e3 w => q v H3 (e2.trans e3) w
  | false =>
    show u D σ H2
    exact h2 rfl H2 (e.trans e2) D fun v H3 e3 w => q v H3 (e2.trans e3) w
theorem nx_if (h : EvT c σ H b) (h1 : b = true → Nx t σ H σ') (h2 : b = false → Nx u σ H σ') : Nx (tIfS c t u) σ H σ' := fun H1 e D q => h H1 e _ fun H2 e2 => by
  cases b with
  | true =>
    show t D σ H2
    exact h1 rfl H2 (e.trans e2) D fun H3 e3 => q H3 (e2.trans e3)
  | false =>
    show u D σ H2
    exact h2 rfl H2 (e.trans e2) D fun H3 e3 => q H3 (e2.trans e3)
/-- if c: leaves; rest -/
theorem rt_ifseq (h : EvT c σ H b) (h1 : b = true → Rt t σ H v) (h2 : b = false → Rt tz σ H v) : Rt (tSeq (tIfS c t tNext) tz) σ H v := fun H1 e D q => h H1 e _ fun H2 e2 => by
  cases b with
  | true =>
    show t { D with nx := tz D } σ H2
    exact h1 rfl H2 (e.trans e2) _ fun H3 e3 => q H3 (e2.trans e3)
  | false =>
    show tz D σ H2
    exact h2 rfl H2 (e.trans e2) D fun H3 e3 => q H3 (e2.trans e3)
theorem rtw_ifseq (h : EvT c σ H b) (h1 : b = true → RtW t σ H W) (h2 : b = false → RtW tz σ H W) : RtW (tSeq (tIfS c t tNext) tz) σ H W := fun H1 e D q => h H1 e _ fun H2 e2 => by
  cases b with
  | true =>
    show t { D with nx := tz D } σ H2
    exact h1 rfl H2 (e.trans e2) _ fun v H3 e3 w => q v H3 (e2.trans e3) w
  | false =>
    show tz D σ H2
    exact h2 rfl H2 (e.trans e2) D fun v H3 e3 w => q v H3 (e2.trans e3) w
theorem Rt.fin {Q : VK} {N : L2.St → Hp → Prop} (h : Rt t σ H v) (k : RetV v H Q) : t { nx := N, rt := Q } σ H := h H (Ex.refl H) _ fun H2 e => k H2 e
theorem RtW.fin {Q : VK} {N : L2.St → Hp → Prop} (h : RtW t σ H W) (k : ∀ v H2, Ex H H2 → W v H2 → Q v H2) : t { nx := N, rt := Q } σ H := h H (Ex.refl H) _ fun v H2 e w => k v H2 e w
/-! loops whose turns are known: s i are the slots ahead of turn i -/
def GNx (g : TG) (u : TS) (x : V) (σ : L2.St) (H : Hp) (σ' : L2.St) : Prop := ∀ H1, Ex H H1 → ∀ D : Ends, (∀ H2, Ex H1 H2 → D.nx σ' H2) → g x σ H1 fun σ2 H2 => u D σ2 H2
def GRtW (g : TG) (u : TS) (x : V) (σ : L2.St) (H : Hp) (W : V → Hp → Prop) : Prop := ∀ H1, Ex H H1 → ∀ D : Ends, (∀ v H2, Ex H1 H2 → W v H2 → D.rt v H2) → g x σ H1 fun σ2 H2 => u D σ2 H2
structure Gen (J : It) (items : Nat → V) (n : Nat) (H : Hp) : Prop where
  go : ∀ i H1, Ex H H1 → i < n → J.go i H1
  yld : ∀ i x H1 H2, Ex H H1 → i < n → J.yld i H1 x H2 → H2 = H1 ∧ x = items i
  stop : ∀ H1, Ex H H1 → J.stop n H1
theorem gnx_name {j : Nat} (h : Nx u (σ.set j (some x)) H σ') : GNx (gName j) u x σ H σ' := fun H1 e D q => h H1 e D q
theorem grt_name {j : Nat} (h : Rt u (σ.set j (some x)) H v) : GRtW (gName j) u x σ H (fun v' _ => v' = v) := fun H1 e D q => h H1 e D fun H2 e2 => q v H2 e2 rfl
theorem grtw_name {j : Nat} (h : RtW u (σ.set j (some x)) H W) : GRtW (gName j) u x σ H W := fun H1 e D q => h H1 e D q
theorem gen_r {lo : Int} {n : Nat} : Gen (Itr lo n) (fun i => .int (lo + (i : Int))) n H := ⟨fun _ _ _ h => h, fun _ _ _ _ _ _ y => y, fun _ _ => Nat.le_refl _⟩
theorem gen_c {lo d : Int} {n : Nat} : Gen (Itc lo d n) (fun i => .int (lo + (i : Nat) * d)) n H := ⟨fun _ _ _ h => h, fun _ _ _ _ _ _ y => y, fun _ _ => Nat.le_refl _⟩
theorem gen_l {a : Addr} {xs : List V} {d : V} (h : SqL K H a xs) : Gen (Itl K a) (fun i => xs.getD i d) xs.length H :=
  ⟨fun i H1 e hi => ⟨xs, xs[i], ex_l e h, by simp [hi]⟩, fun i x H1 H2 e hi y => by
    obtain ⟨y1, y2⟩ := y
    refine ⟨y1, ?_⟩
    have z : xs[i]? = some x := y2 xs (ex_l e h)
    rw [List.getD_eq_getElem?_getD, z]
    rfl, fun H1 e => ⟨xs, ex_l e h, Nat.le_refl _⟩⟩
theorem gen_t {a : Addr} {xs : List V} {d : V} (h : SqT K H a xs) : Gen (Itt K a) (fun i => xs.getD i d) xs.length H :=
  ⟨fun i H1 e hi => ⟨xs, xs[i], ex_t e h, by simp [hi]⟩, fun i x H1 H2 e hi y => by
    obtain ⟨y1, y2⟩ := y
    refine ⟨y1, ?_⟩
    have z : xs[i]? = some x := y2 xs (ex_t e h)
    rw [List.getD_eq_getElem?_getD, z]
    rfl, fun H1 e => ⟨xs, ex_t e h, Nat.le_refl _⟩⟩
theorem for_nx {J : It} {items : Nat → V} {n : Nat} {g : TG} {H1 : Hp} {D : Ends} (s : Nat → L2.St) (G : Gen J items n H) (e : Ex H H1) (hs : ∀ i, i < n → GNx g u (items i) (s i) H (s (i + 1))) (q : ∀ H2, Ex H1 H2 → D.nx (s n) H2) :
    ∃ W : Nat → Nat → L2.St → Hp → Prop, (∃ m, W 0 m (s 0) H1) ∧ ∀ i m σ H, W i m σ H →
      (J.stop i H ∧ D.nx σ H) ∨ (J.go i H ∧ ∃ N : L2.St → Hp → Prop, (∀ σ' H', N σ' H' → ∃ m', m' < m ∧ W (i + 1) m' σ' H') ∧ ∀ x H', J.yld i H x H' → g x σ H' fun σ2 H2 => u { D with nx := N, ct := N, bk := D.nx } σ2 H2) := by
  refine ⟨fun i m σ H2 => m = n - i ∧ i ≤ n ∧ σ = s i ∧ Ex H1 H2, ⟨n, by simp, Nat.zero_le _, rfl, Ex.refl _⟩, ?_⟩
  rintro i m σ H2 ⟨rfl, hi, rfl, e2⟩
  by_cases hlt : i < n
  · refine .inr ⟨G.go i H2 (e.trans e2) hlt, fun σ' H' => σ' = s (i + 1) ∧ Ex H1 H', fun σ' H' p => ⟨n - (i + 1), by omega, rfl, hlt, p.1, p.2⟩, fun x H' y => ?_⟩
    obtain ⟨rfl, rfl⟩ := G.yld i x H2 H' (e.trans e2) hlt y
    exact hs i hlt _ (e.trans e2) _ fun H3 e3 => ⟨rfl, e2.trans e3⟩
  · obtain rfl : i = n := by omega
    exact .inl ⟨G.stop _ (e.trans e2), q _ e2⟩
theorem for_rt {J : It} {items : Nat → V} {n k : Nat} {g : TG} {H1 : Hp} {D : Ends} (s : Nat → L2.St) (G : Gen J items n H) (e : Ex H H1) (hk : k < n) (hs : ∀ i, i < k → GNx g u (items i) (s i) H (s (i + 1))) (hr : GRtW g u (items k) (s k) H W) (q : ∀ v H2, Ex H1 H2 → W v H2 → D.rt v H2) :
    ∃ W : Nat → Nat → L2.St → Hp → Prop, (∃ m, W 0 m (s 0) H1) ∧ ∀ i m σ H, W i m σ H →
      (J.stop i H ∧ D.nx σ H) ∨ (J.go i H ∧ ∃ N : L2.St → Hp → Prop, (∀ σ' H', N σ' H' → ∃ m', m' < m ∧ W (i + 1) m' σ' H') ∧ ∀ x H', J.yld i H x H' → g x σ H' fun σ2 H2 => u { D with nx := N, ct := N, bk := D.nx } σ2 H2) := by
  refine ⟨fun i m σ H2 => m = n - i ∧ i ≤ k ∧ σ = s i ∧ Ex H1 H2, ⟨n, by simp, Nat.zero_le _, rfl, Ex.refl _⟩, ?_⟩
  rintro i m σ H2 ⟨rfl, hi, rfl, e2⟩
  by_cases hlt : i < k
  · refine .inr ⟨G.go i H2 (e.trans e2) (by omega), fun σ' H' => σ' = s (i + 1) ∧ Ex H1 H', fun σ' H' p => ⟨n - (i + 1), by omega, rfl, hlt, p.1, p.2⟩, fun x H' y => ?_⟩
    obtain ⟨rfl, rfl⟩ := G.yld i x H2 H' (e.trans e2) (by omega) y
    exact hs i hlt _ (e.trans e2) _ fun H3 e3 => ⟨rfl, e2.trans e3⟩
  · obtain rfl : i = k := by omega
    refine .inr ⟨G.go _ H2 (e.trans e2) hk, fun _ _ => False, fun _ _ p => p.elim, fun x H' y => ?_⟩
    obtain ⟨rfl, rfl⟩ := G.yld _ x H2 H' (e.trans e2) hk y
    exact hr _ (e.trans e2) _ fun v H3 e3 w => q v H3 (e2.trans e3) w
/-- what a for walks, told at a heap -/
def EvI (wi : TI) (σ : L2.St) (H : Hp) (items : Nat → V) (n : Nat) : Prop := ∀ H1, Ex H H1 → ∀ R : It → Hp → Prop, (∀ J H2, Ex H1 H2 → Gen J items n H2 → R J H2) → wi σ H1 R
theorem ei_r1 {ta : TA} {n : Int} (h : EvA ta σ H [.int n]) (h1 : -(2 ^ 62) ≤ n) (h2 : n < 2 ^ 62) : EvI (iRng1 ta) σ H (fun i => .int (0 + (i : Int))) n.toNat := fun H1 e R q =>
  h H1 e _ fun H2 e2 => ⟨n, rfl, h1, h2, q _ H2 e2 gen_r⟩
theorem ei_r2 {ta : TA} {a n : Int} (h : EvA ta σ H [.int a, .int n]) (h1 : -(2 ^ 62) ≤ a ∧ a < 2 ^ 62 ∧ -(2 ^ 62) ≤ n ∧ n < 2 ^ 62) : EvI (iRng2 ta) σ H (fun i => .int (a + (i : Int))) (n - a).toNat := fun H1 e R q =>
  h H1 e _ fun H2 e2 => ⟨a, n, rfl, h1, q _ H2 e2 gen_r⟩
theorem ei_r3 {ta : TA} {a n d : Int} {m : Nat} (h : EvA ta σ H [.int a, .int n, .int d]) (h1 : RgC a n d m) : EvI (iRng3 ta) σ H (fun i => .int (a + (i : Nat) * d)) m := fun H1 e R q =>
  h H1 e _ fun H2 e2 => ⟨a, n, d, m, rfl, h1, q _ H2 e2 gen_c⟩
theorem ei_l {a : Addr} {xs : List V} (d : V) (h : Ev te σ H (.ref a)) (hx : SqL K H a xs) : EvI (iList K te) σ H (fun i => xs.getD i d) xs.length := fun H1 e R q =>
  h H1 e _ fun H2 e2 => ⟨a, rfl, ⟨xs, ex_l (e.trans e2) hx⟩, q _ H2 e2 (gen_l (ex_l (e.trans e2) hx))⟩
theorem ei_t {a : Addr} {xs : List V} (d : V) (h : Ev te σ H (.ref a)) (hx : SqT K H a xs) : EvI (iTup K te) σ H (fun i => xs.getD i d) xs.length := fun H1 e R q =>
  h H1 e _ fun H2 e2 => ⟨a, rfl, ⟨xs, ex_t (e.trans e2) hx⟩, q _ H2 e2 (gen_t (ex_t (e.trans e2) hx))⟩
/-- over a new tuple -/
theorem ei_tN {xs : List V} (d : V) (h : EvU te σ H xs) : EvI (iTup K te) σ H (fun i => xs.getD i d) xs.length := fun H1 e R q =>
  h H1 e _ fun p H2 _ e2 hp => ⟨p, rfl, ⟨xs, st_of hp⟩, q _ H2 e2 (gen_t (st_of hp))⟩
theorem GNx.mono {g : TG} (e : Ex H H') (h : GNx g u x σ H σ') : GNx g u x σ H' σ' := fun H1 a D q => h H1 (e.trans a) D q
theorem GRtW.mono {g : TG} (e : Ex H H') (h : GRtW g u x σ H W) : GRtW g u x σ H' W := fun H1 a D q => h H1 (e.trans a) D q
theorem nx_for {wi : TI} {items : Nat → V} {n : Nat} {g : TG} (s : Nat → L2.St) (h : EvI wi (s 0) H items n) (hs : ∀ i, i < n → GNx g u (items i) (s i) H (s (i + 1))) : Nx (tFor wi g u) (s 0) H (s n) := fun H1 e D q =>
  h H1 e _ fun J H2 e2 G => for_nx s G (Ex.refl H2) (fun i hi => (hs i hi).mono (e.trans e2)) fun H3 e3 => q H3 (e2.trans e3)
theorem rtw_for {wi : TI} {items : Nat → V} {n : Nat} {g : TG} (k : Nat) (s : Nat → L2.St) (h : EvI wi (s 0) H items n) (hk : k < n) (hs : ∀ i, i < k → GNx g u (items i) (s i) H (s (i + 1))) (hr : GRtW g u (items k) (s k) H W) : RtW (tFor wi g u) (s 0) H W := fun H1 e D q =>
  h H1 e _ fun J H2 e2 G => for_rt s G (Ex.refl H2) hk (fun i hi => (hs i hi).mono (e.trans e2)) (hr.mono (e.trans e2)) fun v H3 e3 w => q v H3 (e2.trans e3) w
theorem RtW.toV (h : RtW t σ H (fun v' _ => v' = v)) : Rt t σ H v := fun H1 e D q => h H1 e D fun v' H2 e2 w => by rw [w]; exact q H2 e2
theorem Rt.toW (h : Rt t σ H v) : RtW t σ H (fun v' _ => v' = v) := fun H1 e D q => h H1 e D fun H2 e2 => q v H2 e2 rfl
theorem rt_for {wi : TI} {items : Nat → V} {n : Nat} {g : TG} (k : Nat) (s : Nat → L2.St) (h : EvI wi (s 0) H items n) (hk : k < n) (hs : ∀ i, i < k → GNx g u (items i) (s i) H (s (i + 1))) (hr : GRtW g u (items k) (s k) H (fun v' _ => v' = v)) : Rt (tFor wi g u) (s 0) H v :=
  (rtw_for k s h hk hs hr).toV
theorem nx_while (m : Nat) (s : Nat → L2.St) (hs : ∀ i, i < m → EvT c (s i) H true ∧ Nx u (s i) H (s (i + 1))) (hd : EvT c (s m) H false) : Nx (tWhile c u) (s 0) H (s m) := fun H1 e D q =>
  ⟨fun k σ H2 => ∃ i, i ≤ m ∧ k = m - i ∧ σ = s i ∧ Ex H1 H2, ⟨m, 0, Nat.zero_le _, rfl, rfl, Ex.refl _⟩, fun k σ H2 ⟨i, hi, hk, hσ, e2⟩ => by
    subst hk hσ
    by_cases hlt : i < m
    · obtain ⟨h1, h2⟩ := hs i hlt
      refine h1 H2 (e.trans e2) _ fun H3 e3 => ?_
      refine ⟨fun σ' H' => σ' = s (i + 1) ∧ Ex H1 H', fun σ' H' p => ⟨m - (i + 1), by omega, i + 1, hlt, rfl, p.1, p.2⟩, ?_⟩
      exact h2 H3 ((e.trans e2).trans e3) _ fun H4 e4 => ⟨rfl, (e2.trans e3).trans e4⟩
    · obtain rfl : i = m := by omega
      refine hd H2 (e.trans e2) _ fun H3 e3 => ?_
      exact q H3 (e2.trans e3)⟩
/-! tuples as targets, items of displays -/
theorem gnx_tup2 {i j : Nat} {a : Addr} {y : V} (h : SqT K H a [x, y]) (k : Nx u ((σ.set i (some x)).set j (some y)) H σ') : GNx (gTup K 2 (gCons (gName i) (gCons (gName j) gNil))) u (.ref a) σ H σ' := fun H1 e D q =>
  ⟨a, [x, y], rfl, ex_t e h, rfl, x, [y], rfl, y, [], rfl, rfl, k H1 e D q⟩
/-- (..)[i], [..][i] of a display -/
theorem ev_ixNL {xs : List V} {i : Int} (ha : EvL ta σ H xs) (hb : Ev tb σ H (.int i)) (hv : atI xs i = some v) : Ev (tOp (rIxL K) ta tb) σ H v := fun H1 e Q q =>
  ha H1 e _ fun p H2 _ e2 hp => hb H2 (e.trans e2) _ fun H3 e3 => ⟨p, xs, i, v, rfl, rfl, sq_of (e3 p _ hp), hv, q H3 (e2.trans e3)⟩
theorem ev_ixL {p : Addr} {xs : List V} {i : Int} (ha : Ev ta σ H (.ref p)) (hb : Ev tb σ H (.int i)) (hx : SqL K H p xs) (hv : atI xs i = some v) : Ev (tOp (rIxL K) ta tb) σ H v := ev_op ha hb (rv_ixL hx hv)
theorem ev_ixT {p : Addr} {xs : List V} {i : Int} (ha : Ev ta σ H (.ref p)) (hb : Ev tb σ H (.int i)) (hx : SqT K H p xs) (hv : atI xs i = some v) : Ev (tOp (rIxT K) ta tb) σ H v := ev_op ha hb (rv_ixT hx hv)
/-- is None, is not None -/
theorem ev_isN (ha : Ev ta σ H x) : Ev (tIsN ta) σ H (.bl (decide (x = .non))) := fun H1 e Q q => ha H1 e _ fun H2 e2 => q H2 e2
theorem ev_notN (ha : Ev ta σ H x) : Ev (tNotN ta) σ H (.bl (!decide (x = .non))) := fun H1 e Q q => ha H1 e _ fun H2 e2 => q H2 e2
/-- a < b < c -/
theorem ev_chain {tc : TE} {r' : R2} {w : V} {b1 b2 : Bool} (ha : Ev ta σ H x) (hb : Ev tb σ H y) (hr : RV r x y H (.bl b1)) (hc : b1 = true → Ev tc σ H w) (hr' : b1 = true → RV r' y w H (.bl b2)) : Ev (tChain r r' ta tb tc) σ H (.bl (b1 && b2)) := fun H1 e Q q =>
  ha H1 e _ fun H2 e2 => hb H2 (e.trans e2) _ fun H3 e3 => hr H3 ((e.trans e2).trans e3) _ fun H4 e4 => ⟨b1, rfl, by
    cases b1 with
    | true =>
      show tc σ H4 fun w' H5 => r' y w' H5 Q
      exact hc rfl H4 (((e.trans e2).trans e3).trans e4) _ fun H5 e5 => hr' rfl H5 ((((e.trans e2).trans e3).trans e4).trans e5) Q fun H6 e6 => q H6 ((((e2.trans e3).trans e4).trans e5).trans e6)
    | false =>
      show Q (.bl false) H4
      exact q H4 ((e2.trans e3).trans e4)⟩
/-- calls of built-ins by values -/
theorem ev_max {i j : Int} (ha : Ev ta σ H (.int i)) (hb : Ev tb σ H (.int j)) : Ev (tCB (fun xs H Q => ∃ i j, xs = [.int i, .int j] ∧ Q (.int (if j > i then j else i)) H) (tCons ta (tCons tb tNil))) σ H (.int (max i j)) := fun H1 e Q q =>
  ha H1 e _ fun H2 e2 => hb H2 (e.trans e2) _ fun H3 e3 => ⟨i, j, rfl, by
    have z : (if j > i then j else i) = max i j := by
      by_cases h : j > i
      · rw [if_pos h]; omega
      · rw [if_neg h]; omega
    rw [z]
    exact q H3 (e2.trans e3)⟩
theorem ev_min {i j : Int} (ha : Ev ta σ H (.int i)) (hb : Ev tb σ H (.int j)) : Ev (tCB (fun xs H Q => ∃ i j, xs = [.int i, .int j] ∧ Q (.int (if j < i then j else i)) H) (tCons ta (tCons tb tNil))) σ H (.int (min i j)) := fun H1 e Q q =>
  ha H1 e _ fun H2 e2 => hb H2 (e.trans e2) _ fun H3 e3 => ⟨i, j, rfl, by
    have z : (if j < i then j else i) = min i j := by
      by_cases h : j < i
      · rw [if_pos h]; omega
      · rw [if_neg h]; omega
    rw [z]
    exact q H3 (e2.trans e3)⟩
theorem ev_intB {k : Bool} (ha : Ev ta σ H (.bl k)) : Ev (tCB (fun xs H Q => (∃ i, xs = [.int i] ∧ Q (.int i) H) ∨ ∃ k, xs = [.bl k] ∧ Q (.int (if k then 1 else 0)) H) (tCons ta tNil)) σ H (.int (if k then 1 else 0)) := fun H1 e Q q =>
  ha H1 e _ fun H2 e2 => .inr ⟨k, rfl, q H2 e2⟩
theorem ev_lenL {p : Addr} {xs : List V} (ha : Ev ta σ H (.ref p)) (hx : SqL K H p xs) : Ev (tCB (fun xs H Q => ∃ p ys, xs = [.ref p] ∧ (SqL K H p ys ∨ SqT K H p ys) ∧ Q (.int ys.length) H) (tCons ta tNil)) σ H (.int (xs.length : Int)) := fun H1 e Q q =>
  ha H1 e _ fun H2 e2 => ⟨p, xs, rfl, .inl (ex_l (e.trans e2) hx), q H2 e2⟩
theorem ev_lenI {p : Addr} {ns : List Int} (ha : Ev ta σ H (.ref p)) (hx : SqL K H p (ns.map V.int)) : Ev (tCB (fun xs H Q => ∃ p ys, xs = [.ref p] ∧ (SqL K H p ys ∨ SqT K H p ys) ∧ Q (.int ys.length) H) (tCons ta tNil)) σ H (.int (ns.length : Int)) := by
  have h := ev_lenL (K := K) ha hx
  rw [List.length_map] at h
  exact h
/-- a display's item -/
theorem ev_ixN {tv : TA} {vs : List V} {i : Int} (ha : EvA tv σ H vs) (hb : Ev tb σ H (.int i)) (hl : vs.length ≤ 100000) (hv : atI vs i = some v) : Ev (tOp (rIxL K) (tLst tv) tb) σ H v := ev_ixNL (el_lst ha hl) hb hv
/-- isinstance -/
theorem ev_isi {te2 : TE} {cv : V} {tv uv : Value} {k : Bool} (ha : Ev ta σ H x) (hb : Ev te2 σ H cv) (hc : ClsV cv uv) (ht : ∀ H1, Ex H H1 → TyX K H1 x tv) (hk : PySem.W.kitOne K tv uv = some k) : Ev (tCB (rIsi K) (tCons ta (tCons te2 tNil))) σ H (.bl k) := fun H1 e Q q =>
  ha H1 e _ fun H2 e2 => hb H2 (e.trans e2) _ fun H3 e3 => ⟨x, cv, tv, uv, k, rfl, hc, ht H3 ((e.trans e2).trans e3), hk, q H3 (e2.trans e3)⟩
/-- data compared -/
theorem rv_eqD {d f : PySem.PyData} (hd : ∀ H1, Ex H H1 → Dp K H1 x d) (hf : ∀ H1, Ex H H1 → Dp K H1 y f) (sd : PySem.SeqAt.shaped d = true) (sf : PySem.SeqAt.shaped f = true) : RV (rEqD K) x y H (.bl (PySem.PyData.eqv d f)) := fun H1 e Q q => ⟨d, f, hd H1 e, hf H1 e, sd, sf, q H1 (Ex.refl _)⟩
theorem rv_neD {d f : PySem.PyData} (hd : ∀ H1, Ex H H1 → Dp K H1 x d) (hf : ∀ H1, Ex H H1 → Dp K H1 y f) (sd : PySem.SeqAt.shaped d = true) (sf : PySem.SeqAt.shaped f = true) : RV (rNeD K) x y H (.bl (!PySem.PyData.eqv d f)) := fun H1 e Q q => ⟨d, f, hd H1 e, hf H1 e, sd, sf, q H1 (Ex.refl _)⟩
/-! promises of defs that hand back a value and change nothing: R arguments heap value -/
def spF (R : List V → Hp → V → Prop) : Sp := fun vs H Q _ => ∃ v, (∀ H1, Ex H H1 → R vs H1 v) ∧ RetV v H Q
theorem ev_callF {R : List V → Hp → V → Prop} {ta : TA} {vs : List V} {E : XK} (h : EvA ta σ H vs) (hR : ∀ H1, Ex H H1 → R vs H1 v) : Ev (tCall (spF R) [] E ta) σ H v := fun H1 e Q q =>
  h H1 e _ fun H2 e2 => by
    rw [List.append_nil]
    exact ⟨v, fun H3 e3 => hR H3 ((e.trans e2).trans e3), fun H3 e3 => q H3 (e2.trans e3)⟩
/-- .. a value by what is true of it -/
def spW (R : List V → Hp → (V → Hp → Prop) → Prop) : Sp := fun vs H Q _ => ∃ W : V → Hp → Prop, (∀ H1, Ex H H1 → R vs H1 W) ∧ ∀ v H2, Ex H H2 → W v H2 → Q v H2
theorem evw_callW {R : List V → Hp → (V → Hp → Prop) → Prop} {ta : TA} {vs : List V} {E : XK} (h : EvA ta σ H vs) (hR : ∀ H1, Ex H H1 → R vs H1 W) : EvW (tCall (spW R) [] E ta) σ H W := fun H1 e Q q =>
  h H1 e _ fun H2 e2 => by
    rw [List.append_nil]
    exact ⟨W, fun H3 e3 => hR H3 ((e.trans e2).trans e3), fun v H3 e3 w => q v H3 (e2.trans e3) w⟩
theorem evw_tup {vs : List V} (h : EvU te σ H vs) : EvW te σ H (fun v H1 => ∃ p, v = .ref p ∧ H1 p = some (.tup vs)) := fun H1 e Q q => h H1 e _ fun p H2 _ e2 hp => q _ H2 e2 ⟨p, rfl, hp⟩
theorem evw_v (h : Ev te σ H v) (hw : ∀ H1, Ex H H1 → W v H1) : EvW te σ H W := fun H1 e Q q => h H1 e _ fun H2 e2 => q v H2 e2 (hw H2 (e.trans e2))
end
section
open C8 (Def Fun Cal Met Mak)
variable {P : Program} {w : World} {K : PySem.W.Frag} {mg : Str → Option Value} {base : Heap}
/-- a def that hands back a value, by its body -/
theorem calF {x : Str} {st : Stmt} {f : Addr} {fd : FuncData} {N ps : List Str} {k : Nat} {R : List V → Hp → V → Prop} (F : C8.Def K mg x st f fd) (b : Binds K fd ps []) (S : FnScope N ps (C8.fnScope st)) (len : ∀ vs H v, R vs H v → vs.length = ps.length)
    (hbody : ∀ (cdv : Value) (A : Around) (outer : List Env) (s : Shared) (H : Hp) (vs : List V) (v : V) (E : XK), Room k (A.deeper (envOfC x (C8.fnScope st) s.heap.objs.size f cdv)) → R vs H v →
      ∃ t, PSs (cxOf C8.CX0 P w K mg base N x (C8.fnScope st) f cdv A outer s H E).nox (C8.fnBody st) t ∧ Rt t (start N vs) H v) : C8.Cal P w K mg base (k + 1) x (spF R) [] :=
  C8.cal0 F b .nil S (fun vs H Q E ⟨v, h, _⟩ => len vs H v (h H (Ex.refl H))) fun cdv A outer s H vs Q E hr ⟨v, h, k⟩ => by
    obtain ⟨t, h1, h2⟩ := hbody cdv A outer s H vs v E hr (h H (Ex.refl H))
    exact ⟨t, h1, h2.fin k⟩
theorem calW {x : Str} {st : Stmt} {f : Addr} {fd : FuncData} {N ps : List Str} {k : Nat} {R : List V → Hp → (V → Hp → Prop) → Prop} (F : C8.Def K mg x st f fd) (b : Binds K fd ps []) (S : FnScope N ps (C8.fnScope st)) (len : ∀ vs H v, R vs H v → vs.length = ps.length)
    (hbody : ∀ (cdv : Value) (A : Around) (outer : List Env) (s : Shared) (H : Hp) (vs : List V) (W : V → Hp → Prop) (E : XK), Room k (A.deeper (envOfC x (C8.fnScope st) s.heap.objs.size f cdv)) → R vs H W →
      ∃ t, PSs (cxOf C8.CX0 P w K mg base N x (C8.fnScope st) f cdv A outer s H E).nox (C8.fnBody st) t ∧ RtW t (start N vs) H W) : C8.Cal P w K mg base (k + 1) x (spW R) [] :=
  C8.cal0 F b .nil S (fun vs H Q E ⟨W, h, _⟩ => len vs H W (h H (Ex.refl H))) fun cdv A outer s H vs Q E hr ⟨W, h, k⟩ => by
    obtain ⟨t, h1, h2⟩ := hbody cdv A outer s H vs W E hr (h H (Ex.refl H))
    exact ⟨t, h1, h2.fin k⟩
theorem metF {m qual : Str} {C : Addr} {st : Stmt} {f : Addr} {fd : FuncData} {N ps : List Str} {k : Nat} {R : List V → Hp → V → Prop} (c : Cls K C) (me : Meth K C m f) (F : C8.Fun K m qual st f fd) (b : Binds K fd ps []) (S : FnScope N ps (C8.fnScope st)) (len : ∀ vs H v, R vs H v → vs.length = ps.length)
    (hbody : ∀ (cdv : Value) (A : Around) (outer : List Env) (s : Shared) (H : Hp) (vs : List V) (v : V) (E : XK), Room k (A.deeper (envOfC qual (C8.fnScope st) s.heap.objs.size f cdv)) → R vs H v →
      ∃ t, PSs (cxOf C8.CX0 P w K mg base N qual (C8.fnScope st) f cdv A outer s H E).nox (C8.fnBody st) t ∧ Rt t (start N vs) H v) : C8.Met P w K mg base (k + 1) C m (spF R) [] :=
  C8.met0 c me F b S (fun vs H Q E ⟨v, h, _⟩ => len vs H v (h H (Ex.refl H))) fun cdv A outer s H vs Q E hr ⟨v, h, k⟩ => by
    obtain ⟨t, h1, h2⟩ := hbody cdv A outer s H vs v E hr (h H (Ex.refl H))
    exact ⟨t, h1, h2.fin k⟩
theorem metW {m qual : Str} {C : Addr} {st : Stmt} {f : Addr} {fd : FuncData} {N ps : List Str} {k : Nat} {R : List V → Hp → (V → Hp → Prop) → Prop} (c : Cls K C) (me : Meth K C m f) (F : C8.Fun K m qual st f fd) (b : Binds K fd ps []) (S : FnScope N ps (C8.fnScope st)) (len : ∀ vs H v, R vs H v → vs.length = ps.length)
    (hbody : ∀ (cdv : Value) (A : Around) (outer : List Env) (s : Shared) (H : Hp) (vs : List V) (W : V → Hp → Prop) (E : XK), Room k (A.deeper (envOfC qual (C8.fnScope st) s.heap.objs.size f cdv)) → R vs H W →
      ∃ t, PSs (cxOf C8.CX0 P w K mg base N qual (C8.fnScope st) f cdv A outer s H E).nox (C8.fnBody st) t ∧ RtW t (start N vs) H W) : C8.Met P w K mg base (k + 1) C m (spW R) [] :=
  C8.met0 c me F b S (fun vs H Q E ⟨W, h, _⟩ => len vs H W (h H (Ex.refl H))) fun cdv A outer s H vs Q E hr ⟨W, h, k⟩ => by
    obtain ⟨t, h1, h2⟩ := hbody cdv A outer s H vs W E hr (h H (Ex.refl H))
    exact ⟨t, h1, h2.fin k⟩
end
end Tk
namespace Tk
open PySem PySem.Spec PyProof.Rows L2 Evl
/-! del xs[:k], 0 ≤ k -/
def cutSel (c : Int) (i : Nat) : Bool := if (1 : Int) > 0 then (0 : Int) ≤ i && (i : Int) < c && ((i : Int) - 0) % 1 == 0 else c < i && (i : Int) ≤ 0 && ((0 : Int) - i) % (-1) == 0
theorem cutSel_eq (c i : Nat) : cutSel (c : Int) i = decide (i < c) := by
  unfold cutSel
  rw [if_pos (by decide)]
  have h1 : decide ((0 : Int) ≤ (i : Int)) = true := decide_eq_true (by omega)
  have h2 : (((i : Int) - 0) % 1 == 0) = true := by
    rw [Int.emod_one]
    rfl
  rw [h1, h2, Bool.true_and, Bool.and_true]
  congr 1
  exact propext (by omega)
theorem cut_from : ∀ (l : List Value) (c j : Nat), (l.zipIdx j).filterMap (fun p => if cutSel (c : Int) p.2 = true then none else some p.1) = l.drop (c - j)
  | [], c, j => by simp
  | x :: l, c, j => by
    rw [List.zipIdx_cons, List.filterMap_cons]
    have ih := cut_from l c (j + 1)
    simp only [cutSel_eq, decide_eq_true_eq] at ih ⊢
    by_cases h : j < c
    · rw [if_pos h]
      rw [ih, show c - j = (c - (j + 1)) + 1 by omega, List.drop_succ_cons]
    · rw [if_neg h]
      rw [ih, show c - (j + 1) = 0 by omega, show c - j = 0 by omega]
      rfl
theorem cut_all (l : List Value) (c : Nat) : (l.zipIdx.filterMap fun p => if cutSel (c : Int) p.2 = true then none else some p.1) = l.drop c := cut_from l c 0
section
variable {prog : Program} {w : World} {A : Around} {E : Value → Shared → Prop} {s : Shared}
theorem bounds_to {c n : Nat} (hc : c ≤ n) : sliceBounds none (some (c : Int)) none n = ((0 : Int), (c : Int), 1) := by
  simp only [sliceBounds, Option.getD_none]
  have b1 : ¬ ((c : Int) < 0) := by omega
  simp only [b1, if_false, show (1 : Int) > 0 by decide, if_true]
  congr 1
  congr 1
  omega
theorem cutGo {l sl : Addr} {its : List Value} {n : Nat} {vu : Value} {c : Nat} {Q : Unit → Shared → Prop} {os : Obj} (q1 : s.heap.get? sl = some os) (q3 : os.data = .fields #[.none, vu, .none]) (pu : IsPart vu (some (c : Int)))
    (e : s.heap.get? l = some { cls := .type "list", data := .seq its.toArray n }) (hc : c ≤ its.length) (hz : its.length ≤ sizeLine) (nstep : ¬ ((rawPart none == rawInt 0) = true))
    (h : ∀ f : Array Value → Array Value, f its.toArray = (its.drop c).toArray → Q () { s with heap := s.heap.update l (Obj.mapSeq f) }) {R : Value × Value × Value → Shared → Prop}
    (hR : R (rawPart none, rawPart (some (c : Int)), rawPart none) s) :
    wpAny (model prog w) A (if (rawPart none == rawInt 0) = true then (do rule "list.slice.step-zero"; let __r ← raiseErrorWords "ValueError" "slice step cannot be zero"; (fun _ : PUnit => do let first ← listPart (← field (.ref sl) 0); let last ← listPart (← field (.ref sl) 1); pure (first, last, rawPart none)) __r) else (do let first ← listPart (← field (.ref sl) 0); let last ← listPart (← field (.ref sl) 1); pure (first, last, rawPart none))) R E s := by
  rw [if_neg nstep]
  exact wpAny_bind (wpAny_field q1 q3 (x := .none) rfl (wpAny_bind (wpAny_listPart .none (wpAny_bind (wpAny_field q1 q3 (x := vu) rfl (wpAny_bind (wpAny_listPart pu (wpAny_pure hR))))))))
theorem cutEnd {l : Addr} {its : List Value} {n : Nat} {c : Nat} {Q : Unit → Shared → Prop} (e : s.heap.get? l = some { cls := .type "list", data := .seq its.toArray n }) (hc : c ≤ its.length) (hz : its.length ≤ sizeLine)
    (h : ∀ f : Array Value → Array Value, f its.toArray = (its.drop c).toArray → Q () { s with heap := s.heap.update l (Obj.mapSeq f) }) :
    wpAny (model prog w) A (do
      let old ← Builtin.List.listItems (.ref l)
      let x ← sliceIndices (rawPart none) (rawPart (some (c : Int))) (rawPart none) old.size
      rule "list.__delitem__.slice"
      Builtin.List.listUpdate (.ref l) fun xs => (xs.toList.zipIdx.filterMap fun p => if (if x.2.2 > 0 then x.1 ≤ p.2 && p.2 < x.2.1 && (p.2 - x.1) % x.2.2 == 0 else x.2.1 < p.2 && p.2 ≤ x.1 && (x.1 - p.2) % (-x.2.2) == 0 : Bool) = true then none else some p.1).toArray
      letGo (if (x.2.2 == 1) = true then (old.toList.zipIdx.filterMap fun p => if (if x.2.2 > 0 then x.1 ≤ p.2 && p.2 < x.2.1 && (p.2 - x.1) % x.2.2 == 0 else x.2.1 < p.2 && p.2 ≤ x.1 && (x.1 - p.2) % (-x.2.2) == 0 : Bool) = true then some p.1 else none).reverse
        else old.toList.zipIdx.filterMap fun p => if (if x.2.2 > 0 then x.1 ≤ p.2 && p.2 < x.2.1 && (p.2 - x.1) % x.2.2 == 0 else x.2.1 < p.2 && p.2 ≤ x.1 && (x.1 - p.2) % (-x.2.2) == 0 : Bool) = true then some p.1 else none)
      ret .none) (fun fin s' => ∃ v, fin = PySem.Fin.done (Flow.ret v) ∧ Q () s') E s := by
  unfold Builtin.List.listItems
  refine wpAny_bind (wpAny_bind (wpAny_seqItems e rfl (wpAny_pure ?_)))
  refine wpAny_bind (wpAny_of_eq ((sliceIndices_raw none (some (c : Int)) none its.toArray.size (by simp)).trans (congrArg (pure : Int × Int × Int → Sem (Int × Int × Int)) (bounds_to (by rw [List.size_toArray]; exact hc)))) ?_)
  refine wpAny_bind (wpAny_rule ?_)
  dsimp only
  have key : ((its.zipIdx.filterMap fun p => if (if (1 : Int) > 0 then (0 : Int) ≤ p.2 && (p.2 : Int) < (c : Int) && ((p.2 : Int) - 0) % 1 == 0 else (c : Int) < p.2 && (p.2 : Int) ≤ 0 && ((0 : Int) - p.2) % -1 == 0 : Bool) = true then none else some p.1).toArray) = (its.drop c).toArray := congrArg List.toArray (cut_all its c)
  refine wpAny_bind (m := updateSeq l _) (wpAny_updateSeq (hz := by rw [List.size_toArray]; exact hz) (_hz' := ?hz2) e rfl ?_)
  case hz2 =>
    refine Nat.le_trans (Nat.le_of_eq (congrArg Array.size key)) ?_
    rw [List.size_toArray, List.length_drop]
    omega
  refine wpAny_bind (wpAny_letGo ?_)
  exact wpAny_pure ⟨.none, rfl, h _ key⟩
theorem delItem_to {l sl : Addr} {its : List Value} {n : Nat} {vu : Value} {c : Nat} {Q : Unit → Shared → Prop} (e : s.heap.get? l = some { cls := .type "list", data := .seq its.toArray n }) (hs : s.heap.IsSliceOf sl .none vu .none) (pu : IsPart vu (some (c : Int))) (hc : c ≤ its.length) (hz : its.length ≤ sizeLine)
    (h : ∀ f : Array Value → Array Value, f its.toArray = (its.drop c).toArray → Q () { s with heap := s.heap.update l (Obj.mapSeq f) }) : wpAny (model prog w) A (delItem (.ref l) (.ref sl)) Q E s := by
  obtain ⟨os, q1, q2, q3⟩ := id hs
  have tS : s.TypeIs (.ref sl) "slice" := ⟨os, q1, q2⟩
  have tL : s.TypeIs (.ref l) "list" := ⟨_, e, rfl⟩
  refine wpAny_delItem_slot (T := "list") tL (by decide) F.slot_list_delitem (wpAny_call_entry F.slot_list_delitem tL F.entry_list_delitem ?_ (F.args_list_delitem_2 _ _))
  have nstep : ¬ ((rawPart none == rawInt 0) = true) := Bool.false_ne_true
  show wpAny _ _ (Builtin.List.listSubscript? (.ref sl) >>= _) _ _ s
  unfold Builtin.List.listSubscript?
  refine wpAny_bind (wpAny_bind (wpAny_specialOf tS slice_no_index (by simp only [Option.isNone_none, if_true]; refine wpAny_pure ?_; show wpAny _ _ (typeOf (.ref sl) >>= _) _ _ s; refine wpAny_bind (wpAny_typeOf tS ?_); rw [if_neg (by decide), listSliceParts_eq]; refine wpAny_bind (wpAny_bind (wpAny_field q1 q3 (x := .none) rfl (wpAny_bind (wpAny_listPart .none ?_)))); refine cutGo q1 q3 pu e hc hz nstep h ?_; exact cutEnd e hc hz h)))
end
section
variable {X : Cx}
def tDelTo (to te : TE) : TS := fun D σ H => to σ H fun x H1 => tPart te σ H1 fun o H2 => ∃ (l : Addr) (xs : List V) (c : Nat), x = .ref l ∧ o = some (c : Int) ∧ H2 l = some (.lst xs) ∧ c ≤ xs.length ∧ D.nx σ (upd H2 l (.lst (xs.drop c)))
theorem ps_delTo {o e : Expr} {to te : TE} {tpos p2 pos : Pos} (ho : PE X o to) (he : PE X e te) : PS X (.Delete [.Subscript o (.Slice none (some e) none p2) tpos] pos) (tDelTo to te) := by
  refine ⟨fun pins s σ H D I h => ?_⟩
  refine wpAny_Delete (wpAny_deleteEach_cons (wpAny_delete_Subscript (thn (ho.run pins s σ H _ I h) fun u s1 ⟨x, H1, I1, rx, q1⟩ => ?_)))
  refine wpAny_Slice ?_
  rw [evalPart_none]
  refine wpAny_pure (thn ((po_some he).run pins s1 σ H1 _ I1 q1) fun vu s2 ⟨o, H2, I2, pu, l, xs, c, ex, eo, hl, hc, q2⟩ => wpAny_pure ?_)
  subst ex eo
  cases (show u = Value.ref l from rx)
  have I3 : Inv X pins σ H2 { s2 with heap := s2.heap.push { cls := .type "slice", data := .fields #[.none, vu, .none] } } := I2.kept (t' := s2.toks) fun b ob q => Heap.get?_push_of_some _ q
  obtain ⟨z, its, n, r, len, e3⟩ := I3.lstM hl
  refine delItem_to e3 (Heap.IsSliceOf.new ..) pu (by omega) (by omega) fun f hf => wpAny_deleteEach_nil ⟨σ, _, I3.lset (t' := s2.toks) hl e3 hf (r.drop c) ?_, q2⟩
  rw [List.length_drop]
  omega
end
end Tk
namespace Tk
open PySem PySem.Spec PyProof.Rows L2 Evl
section
variable {σ σ' σ'' : L2.St} {H H' : Hp} {v x y z : V} {te ta tb : TE} {t u tw tz : TS} {c c2 : TT} {b : Bool} {W : V → Hp → Prop} {K : PySem.W.Frag} {r : R2} {a C dx : Addr} {fs : List (Str × V)} {f m : Str}
theorem ev_fld (ha : Ev ta σ H (.ref a)) (hx : H a = some (.ins C dx fs)) (hc : Cls K C) (hn : NoAttr K C f) (hl : fs.lookup f = some v) : Ev (tFld K ta f) σ H v := fun H1 e Q q =>
  ha H1 e _ fun H2 e2 => ⟨a, C, dx, fs, v, rfl, (e.trans e2) a _ hx, hc, hn, hl, q H2 e2⟩
theorem ev_methF {R : List V → Hp → V → Prop} {tA : TA} {vs : List V} {E : XK} (ha : Ev ta σ H (.ref a)) (hx : H a = some (.ins C dx fs)) (hm : fs.lookup m = none) (h : EvA tA σ H vs) (hR : ∀ H1, Ex H H1 → R (.ref a :: vs) H1 v) : Ev (tMeth C m (spF R) [] E ta tA) σ H v := fun H1 e Q q =>
  ha H1 e _ fun H2 e2 => ⟨a, dx, fs, rfl, (e.trans e2) a _ hx, hm, h H2 (e.trans e2) _ fun H3 e3 => by
    rw [List.append_nil]
    exact ⟨v, fun H4 e4 => hR H4 (((e.trans e2).trans e3).trans e4), fun H4 e4 => q H4 ((e2.trans e3).trans e4)⟩⟩
theorem evw_methW {R : List V → Hp → (V → Hp → Prop) → Prop} {tA : TA} {vs : List V} {E : XK} (ha : Ev ta σ H (.ref a)) (hx : H a = some (.ins C dx fs)) (hm : fs.lookup m = none) (h : EvA tA σ H vs) (hR : ∀ H1, Ex H H1 → R (.ref a :: vs) H1 W) : EvW (tMeth C m (spW R) [] E ta tA) σ H W := fun H1 e Q q =>
  ha H1 e _ fun H2 e2 => ⟨a, dx, fs, rfl, (e.trans e2) a _ hx, hm, h H2 (e.trans e2) _ fun H3 e3 => by
    rw [List.append_nil]
    exact ⟨W, fun H4 e4 => hR H4 (((e.trans e2).trans e3).trans e4), fun v H4 e4 w => q v H4 ((e2.trans e3).trans e4) w⟩⟩
/-- what an __init__ promises: of these arguments, at a new instance -/
def spI (C : Addr) (Dm : List V → Prop) (J : List V → Addr → Addr → Hp → Prop) : Sp := fun vs H Q _ => ∃ (x dx : Addr) (as : List V), vs = .ref x :: as ∧ H x = some (.ins C dx []) ∧ Dm as ∧ ∀ H2, (∀ b o, b ≠ x → H b = some o → H2 b = some o) → J as x dx H2 → Q .non H2
theorem evw_make {Dm : List V → Prop} {J : List V → Addr → Addr → Hp → Prop} {tA : TA} {vs : List V} {E : XK} (h : EvA tA σ H vs) (hd : Dm vs) : EvW (tMake C (spI C Dm J) [] E tA) σ H (fun v H2 => ∃ x dx, v = .ref x ∧ J vs x dx H2) := fun H1 e Q q =>
  h H1 e _ fun H2 e2 => fun x dx nx nd ne => by
    rw [List.append_nil]
    refine ⟨x, dx, vs, rfl, upd_same, hd, fun H3 k w => ⟨rfl, q _ H3 (e2.trans fun b o hb => ?_) ⟨x, dx, rfl, w⟩⟩⟩
    have n1 : b ≠ x := ne_of_none hb nx
    refine k b o n1 ?_
    rw [upd_ne n1, upd_ne (ne_of_none hb nd)]
    exact hb
/-! blocks by what holds of the slots behind -/
def NxP (t : TS) (σ : L2.St) (H : Hp) (P : L2.St → Prop) : Prop := ∀ H1, Ex H H1 → ∀ D : Ends, (∀ σ' H2, Ex H1 H2 → P σ' → D.nx σ' H2) → t D σ H1
theorem nxp_of {P : L2.St → Prop} (h : Nx t σ H σ') (p : P σ') : NxP t σ H P := fun H1 e D q => h H1 e D fun H2 e2 => q σ' H2 e2 p
theorem NxP.imp {P P' : L2.St → Prop} (h : NxP t σ H P) (k : ∀ s, P s → P' s) : NxP t σ H P' := fun H1 e D q => h H1 e D fun s H2 e2 p => q s H2 e2 (k s p)
theorem rt_seqP {P : L2.St → Prop} (h : NxP t σ H P) (k : ∀ σ', P σ' → Rt u σ' H v) : Rt (tSeq t u) σ H v := fun H1 e D q => h H1 e { D with nx := u D } fun σ' H2 e2 p => k σ' p H2 (e.trans e2) D fun H3 e3 => q H3 (e2.trans e3)
theorem rtw_seqP {P : L2.St → Prop} (h : NxP t σ H P) (k : ∀ σ', P σ' → RtW u σ' H W) : RtW (tSeq t u) σ H W := fun H1 e D q => h H1 e { D with nx := u D } fun σ' H2 e2 p => k σ' p H2 (e.trans e2) D fun v H3 e3 w => q v H3 (e2.trans e3) w
theorem nxp_seqP {P P' : L2.St → Prop} (h : NxP t σ H P) (k : ∀ σ', P σ' → NxP u σ' H P') : NxP (tSeq t u) σ H P' := fun H1 e D q => h H1 e { D with nx := u D } fun σ' H2 e2 p => k σ' p H2 (e.trans e2) D fun s H3 e3 w => q s H3 (e2.trans e3) w
theorem nxp_if {P : L2.St → Prop} (h : EvT c σ H b) (h1 : b = true → NxP t σ H P) (h2 : b = false → NxP u σ H P) : NxP (tIfS c t u) σ H P := fun H1 e D q => h H1 e _ fun H2 e2 => by
  cases b with
  | true =>
    show t D σ H2
    exact h1 rfl H2 (e.trans e2) D fun s H3 e3 => q s H3 (e2.trans e3)
  | false =>
    show u D σ H2
    exact h2 rfl H2 (e.trans e2) D fun s H3 e3 => q s H3 (e2.trans e3)
theorem nxp_while {P : L2.St → Prop} (I : L2.St → Prop) (μ : L2.St → Nat) (h0 : I σ) (hs : ∀ s, I s → ∃ b, EvT c s H b ∧ (b = true → NxP u s H fun s' => I s' ∧ μ s' < μ s) ∧ (b = false → P s)) : NxP (tWhile c u) σ H P := fun H1 e D q =>
  ⟨fun k s H2 => k = μ s ∧ I s ∧ Ex H1 H2, ⟨_, rfl, h0, Ex.refl _⟩, fun k s H2 ⟨hk, hI, e2⟩ => by
    subst hk
    obtain ⟨b, hb, h1, h2⟩ := hs s hI
    refine hb H2 (e.trans e2) _ fun H3 e3 => ?_
    cases b with
    | true =>
      refine ⟨fun s' H' => (I s' ∧ μ s' < μ s) ∧ Ex H1 H', fun s' H' p => ⟨μ s', p.1.2, rfl, p.1.1, p.2⟩, ?_⟩
      exact h1 rfl H3 ((e.trans e2).trans e3) _ fun s' H4 e4 p => ⟨p, (e2.trans e3).trans e4⟩
    | false => exact q s H3 (e2.trans e3) (h2 rfl)⟩
/-! lists of pairs of numbers, tracked -/
def Prs (H : Hp) (ps : List Addr) (vs : List (Int × Int)) : Prop := Paired (fun (p : Addr) (q : Int × Int) => H p = some (.tup [.int q.1, .int q.2])) ps vs
def PairsT (H : Hp) (l : Addr) (vs : List (Int × Int)) : Prop := ∃ ps : List Addr, H l = some (.lst (ps.map V.ref)) ∧ Prs H ps vs
theorem Prs.mono {ps : List Addr} {vs : List (Int × Int)} (e : Ex H H') (h : Prs H ps vs) : Prs H' ps vs := by
  induction h with
  | nil => exact .nil
  | cons h1 _ ih => exact .cons (e _ _ h1) ih
theorem Prs.len {ps : List Addr} {vs : List (Int × Int)} (h : Prs H ps vs) : ps.length = vs.length := by
  induction h with
  | nil => rfl
  | cons _ _ ih => rw [List.length_cons, List.length_cons, ih]
theorem Prs.at {ps : List Addr} {vs : List (Int × Int)} (h : Prs H ps vs) {i : Nat} {q : Int × Int} (hq : vs[i]? = some q) : ∃ p, ps[i]? = some p ∧ H p = some (.tup [.int q.1, .int q.2]) := by
  induction h generalizing i with
  | nil => simp at hq
  | @cons p q' ps vs h1 _ ih =>
    cases i with
    | zero =>
      rw [List.getElem?_cons_zero] at hq
      cases hq
      exact ⟨p, rfl, h1⟩
    | succ i =>
      rw [List.getElem?_cons_succ] at hq
      obtain ⟨p', e1, e2⟩ := ih hq
      exact ⟨p', by rw [List.getElem?_cons_succ]; exact e1, e2⟩
theorem Prs.snoc {ps : List Addr} {vs : List (Int × Int)} {p : Addr} {q : Int × Int} (h : Prs H ps vs) (hp : H p = some (.tup [.int q.1, .int q.2])) : Prs H (ps ++ [p]) (vs ++ [q]) := by
  induction h with
  | nil => exact .cons hp .nil
  | cons h1 _ ih => exact .cons h1 ih
theorem Prs.drop {ps : List Addr} {vs : List (Int × Int)} (k : Nat) (h : Prs H ps vs) : Prs H (ps.drop k) (vs.drop k) := by
  induction h generalizing k with
  | nil =>
    rw [List.drop_nil, List.drop_nil]
    exact .nil
  | cons h1 h2 ih =>
    cases k with
    | zero => exact .cons h1 h2
    | succ k => exact ih k
theorem Prs.take {ps : List Addr} {vs : List (Int × Int)} (k : Nat) (h : Prs H ps vs) : Prs H (ps.take k) (vs.take k) := by
  induction h generalizing k with
  | nil =>
    rw [List.take_nil, List.take_nil]
    exact .nil
  | cons h1 h2 ih =>
    cases k with
    | zero => exact .nil
    | succ k => exact .cons h1 (ih k)
/-- a change elsewhere: at an object that is no tuple -/
theorem Prs.upd {ps : List Addr} {vs : List (Int × Int)} {l : Addr} {o : HO} (h : Prs H ps vs) (hl : ∀ xs, H l ≠ some (.tup xs)) : Prs (L2.upd H l o) ps vs := by
  induction h with
  | nil => exact .nil
  | cons h1 _ ih => exact .cons (by rw [upd_ne (fun z => hl _ (by rw [← z]; exact h1))]; exact h1) ih
theorem PairsT.mono {l : Addr} {vs : List (Int × Int)} (e : Ex H H') (h : PairsT H l vs) : PairsT H' l vs := by
  obtain ⟨ps, h1, h2⟩ := h
  exact ⟨ps, e _ _ h1, h2.mono e⟩
theorem PairsT.lst {l : Addr} {vs : List (Int × Int)} (h : PairsT H l vs) : ∃ xs : List V, SqL K H l xs ∧ xs.length = vs.length := by
  obtain ⟨ps, h1, h2⟩ := h
  exact ⟨_, sq_of h1, by rw [List.length_map]; exact h2.len⟩
theorem ev_lenP {l : Addr} {vs : List (Int × Int)} (ha : Ev ta σ H (.ref l)) (h : PairsT H l vs) : Ev (tCB (fun xs H Q => ∃ p ys, xs = [.ref p] ∧ (SqL K H p ys ∨ SqT K H p ys) ∧ Q (.int ys.length) H) (tCons ta tNil)) σ H (.int (vs.length : Int)) := by
  obtain ⟨xs, h1, h2⟩ := h.lst (K := K)
  rw [← h2]
  exact ev_lenL ha h1
/-- rows[i] -/
theorem ev_pair {l : Addr} {vs : List (Int × Int)} {i : Int} {q : Int × Int} (h : PairsT H l vs) (ha : Ev ta σ H (.ref l)) (hb : Ev tb σ H (.int i)) (h0 : 0 ≤ i) (hq : vs[i.toNat]? = some q) : ∃ p, H p = some (.tup [.int q.1, .int q.2]) ∧ Ev (tOp (rIxL K) ta tb) σ H (.ref p) := by
  obtain ⟨ps, h1, h2⟩ := h
  obtain ⟨p, e1, e2⟩ := h2.at hq
  refine ⟨p, e2, ev_ixL ha hb (sq_of h1) ?_⟩
  obtain ⟨j, rfl⟩ : ∃ j : Nat, i = (j : Int) := ⟨i.toNat, by omega⟩
  refine atI_nat ?_
  rw [List.getElem?_map]
  rw [Int.toNat_natCast] at e1
  rw [e1]
  rfl
theorem ev_pair0 {l : Addr} {vs : List (Int × Int)} {i : Int} {q : Int × Int} (ha : Ev ta σ H (.ref l)) (hb : Ev tb σ H (.int i)) (h : PairsT H l vs) (h0 : 0 ≤ i) (hq : vs[i.toNat]? = some q) : Ev (tOp (rIxT K) (tOp (rIxL K) ta tb) (tC (.int 0))) σ H (.int q.1) := by
  obtain ⟨p, h1, h2⟩ := ev_pair (K := K) h ha hb h0 hq
  exact ev_ixT h2 ev_c (st_of h1) rfl
theorem ev_pair1 {l : Addr} {vs : List (Int × Int)} {i : Int} {q : Int × Int} (ha : Ev ta σ H (.ref l)) (hb : Ev tb σ H (.int i)) (h : PairsT H l vs) (h0 : 0 ≤ i) (hq : vs[i.toNat]? = some q) : Ev (tOp (rIxT K) (tOp (rIxL K) ta tb) (tC (.int 1))) σ H (.int q.2) := by
  obtain ⟨p, h1, h2⟩ := ev_pair (K := K) h ha hb h0 hq
  exact ev_ixT h2 ev_c (st_of h1) rfl
/-! statements that change objects, told at the heap ahead -/
variable {D : Ends}
theorem Nx.go (h : Nx t σ H σ') (k : ∀ H2, Ex H H2 → u D σ' H2) : tSeq t u D σ H := h H (Ex.refl H) { D with nx := u D } k
theorem Rt.go (h : Rt t σ H v) (k : ∀ H2, Ex H H2 → D.rt v H2) : t D σ H := h H (Ex.refl H) D k
theorem s_fldst {y : V} {tv : TE} (hv : Ev tv σ H y) (ha : Ev ta σ H (.ref a)) (hx : H a = some (.ins C dx fs)) (hc : Cls K C) (hn : NoAttr K C f) (hl : fs.length < 1000) (k : ∀ H1, Ex H H1 → D.nx σ (upd H1 a (.ins C dx (putF f y fs)))) : sFld K ta tv f D σ H :=
  hv H (Ex.refl H) _ fun H1 e1 => ha H1 e1 _ fun H2 e2 => ⟨a, C, dx, fs, rfl, (e1.trans e2) _ _ hx, hc, hn, hl, k H2 (e1.trans e2)⟩
theorem s_fldaugst {i j : Int} {tv : TE} (ha : Ev ta σ H (.ref a)) (hx : H a = some (.ins C dx fs)) (hc : Cls K C) (hn : NoAttr K C f) (hl : fs.lookup f = some (.int i)) (hv : Ev tv σ H (.int j)) (hz : fs.length < 1000) (k : ∀ H1, Ex H H1 → D.nx σ (upd H1 a (.ins C dx (putF f (.int (i + j)) fs)))) : sFldAug K ta tv rAdd f D σ H :=
  ha H (Ex.refl H) _ fun H1 e1 => ⟨a, C, dx, fs, .int i, rfl, e1 _ _ hx, hc, hn, hl, hv H1 e1 _ fun H2 e2 => ⟨i, j, rfl, rfl, dx, fs, (e1.trans e2) _ _ hx, hz, k H2 (e1.trans e2)⟩⟩
/-! a loop whose turn goes on with a new state, or leaves -/
def runN {α : Type} (turn : Nat → α → Option α) : Nat → Nat → α → Option α
  | 0, _, st => some st
  | m + 1, i, st => match turn i st with
    | none => none
    | some st' => runN turn m (i + 1) st'
theorem runN_steps {α : Type} (turn : Nat → α → Option α) : ∀ (m i : Nat) (st : α),
    (∃ f : Nat → α, f 0 = st ∧ (∀ j, j < m → turn (i + j) (f j) = some (f (j + 1))) ∧ runN turn m i st = some (f m)) ∨
    (∃ (k : Nat) (f : Nat → α), k < m ∧ f 0 = st ∧ (∀ j, j < k → turn (i + j) (f j) = some (f (j + 1))) ∧ turn (i + k) (f k) = none ∧ runN turn m i st = none)
  | 0, i, st => .inl ⟨fun _ => st, rfl, fun _ h => absurd h (Nat.not_lt_zero _), rfl⟩
  | m + 1, i, st => by
    cases e : turn i st with
    | none =>
      refine .inr ⟨0, fun _ => st, Nat.succ_pos _, rfl, fun _ h => absurd h (Nat.not_lt_zero _), e, ?_⟩
      rw [runN, e]
    | some st' =>
      have er : runN turn (m + 1) i st = runN turn m (i + 1) st' := by rw [runN, e]
      have sh : ∀ j, i + 1 + j = i + (j + 1) := fun j => by omega
      rcases runN_steps turn m (i + 1) st' with ⟨f, h0, h1, h2⟩ | ⟨k, f, hk, h0, h1, h2, h3⟩
      · refine .inl ⟨fun j => match j with | 0 => st | j + 1 => f j, rfl, fun j hj => ?_, er.trans h2⟩
        cases j with
        | zero =>
          show turn i st = some (f 0)
          rw [e, h0]
        | succ j =>
          rw [← sh]
          exact h1 j (Nat.lt_of_succ_lt_succ hj)
      · refine .inr ⟨k + 1, fun j => match j with | 0 => st | j + 1 => f j, Nat.succ_lt_succ hk, rfl, fun j hj => ?_, by rw [← sh]; exact h2, er.trans h3⟩
        cases j with
        | zero =>
          show turn i st = some (f 0)
          rw [e, h0]
        | succ j =>
          rw [← sh]
          exact h1 j (Nat.lt_of_succ_lt_succ hj)
theorem rt_for_opt {α : Type} {wi : TI} {items : Nat → V} {n : Nat} {g : TG} {v0 : V} {st0 : α} (turn : Nat → α → Option α) (S : α → Nat → L2.St) (Iv : Nat → α → Prop) (i0 : Iv 0 st0) (hI : EvI wi (S st0 0) H items n)
    (hs : ∀ i st st', i < n → Iv i st → turn i st = some st' → GNx g u (items i) (S st i) H (S st' (i + 1)) ∧ Iv (i + 1) st') (hn : ∀ i st, i < n → Iv i st → turn i st = none → GRtW g u (items i) (S st i) H (fun v' _ => v' = v0))
    (hr : ∀ st, Iv n st → runN turn n 0 st0 = some st → Rt tz (S st n) H v) (h0 : runN turn n 0 st0 = none → v = v0) : Rt (tSeq (tFor wi g u) tz) (S st0 0) H v := by
  rcases runN_steps turn n 0 st0 with ⟨f, f0, f1, f2⟩ | ⟨k, f, hk, f0, f1, f2, f3⟩
  · have iv : ∀ j, j ≤ n → Iv j (f j) := fun j => by
      induction j with
      | zero => intro _; rw [f0]; exact i0
      | succ j ih => exact fun hj => (hs j (f j) (f (j + 1)) hj (ih (Nat.le_of_succ_le hj)) (by have := f1 j hj; rw [Nat.zero_add] at this; exact this)).2
    have hI' : EvI wi (S (f 0) 0) H items n := by rw [f0]; exact hI
    have z : Nx (tFor wi g u) (S (f 0) 0) H (S (f n) n) := nx_for (fun j => S (f j) j) hI' fun j hj => (hs j _ _ hj (iv j (Nat.le_of_lt hj)) (by have := f1 j hj; rw [Nat.zero_add] at this; exact this)).1
    rw [f0] at z
    exact rt_seq z (hr _ (iv n (Nat.le_refl n)) f2)
  · have iv : ∀ j, j ≤ k → Iv j (f j) := fun j => by
      induction j with
      | zero => intro _; rw [f0]; exact i0
      | succ j ih => exact fun hj => (hs j (f j) (f (j + 1)) (Nat.lt_trans hj hk) (ih (Nat.le_of_succ_le hj)) (by have := f1 j hj; rw [Nat.zero_add] at this; exact this)).2
    have hI' : EvI wi (S (f 0) 0) H items n := by rw [f0]; exact hI
    have z : Rt (tFor wi g u) (S (f 0) 0) H v0 := rt_for k (fun j => S (f j) j) hI' hk (fun j hj => (hs j _ _ (Nat.lt_trans hj hk) (iv j (Nat.le_of_lt hj)) (by have := f1 j hj; rw [Nat.zero_add] at this; exact this)).1) (hn k _ hk (iv k (Nat.le_refl k)) (by rw [Nat.zero_add] at f2; exact f2))
    rw [f0] at z
    rw [h0 f3]
    exact rt_now z
theorem Rt.at (h : Rt t σ' H v) (e : σ = σ') : Rt t σ H v := e ▸ h
theorem getD_some {vs : List (Int × Int)} {i : Nat} (h : i < vs.length) : vs[i]? = some (vs.getD i (0, 0)) := by
  rw [List.getD_eq_getElem?_getD, List.getElem?_eq_getElem h]
  rfl
end
section
variable {P : Program} {w : World} {K : PySem.W.Frag} {mg : Str → Option Value} {base : Heap} {C : Addr} {x m : Str} {sp : Sp} {dvs : List V} {j k : Nat}
theorem metMono (h : j ≤ k) (c : C8.Met P w K mg base j C m sp dvs) : C8.Met P w K mg base k C m sp dvs := by
  obtain ⟨f, fd, ps, ds, h1, h2, F, h3, h4⟩ := c.ex
  exact ⟨f, fd, ps, ds, h1, h2, F.mono h, h3, h4⟩
theorem calMono (h : j ≤ k) (c : C8.Cal P w K mg base j x sp dvs) : C8.Cal P w K mg base k x sp dvs := by
  obtain ⟨f, fd, ps, ds, F, h1, h2, h3, h4⟩ := c.ex
  exact ⟨f, fd, ps, ds, F.mono h, h1, h2, h3, h4⟩
end
theorem rv_isB {a b : Bool} {H : Hp} : RV rIsB (.bl a) (.bl b) H (.bl (decide (a = b))) := fun H1 _ _ q => ⟨a, b, rfl, rfl, q H1 (Ex.refl H1)⟩
end Tk
namespace Tk
open PySem PySem.Spec PyProof.Rows L2 Evl
/-! a class made in a try: what leaves its __init__ is the try's -/
def tMakeS (C : Addr) (sp : Sp) (E : L2.St → XK) (t : TA) : TE := fun σ H Q => t σ H fun vs H1 => ∀ x dx, H1 x = none → H1 dx = none → dx ≠ x → sp (.ref x :: vs) (upd (upd H1 dx (.own x)) x (.ins C dx [])) (fun v H2 => v = .non ∧ Q (.ref x) H2) (E σ)
section
variable {X : Cx} {CX : CXT} {k : Nat} {f C : Addr} {fd : FuncData} {ps : List Str} {sp : Sp} {E : L2.St → XK} {x : Str} {p pos : Pos} {e : Expr} {es : List Expr} {t : TA}
theorem goMakeS {pn : List (Addr × Obj)} {σ : L2.St} {H : Hp} {s : Shared} {Q : VK} {us : List Value} {vs : List V} (M : Mk X.K C f) (F : FnOk X.prog X.w X.K X.mg X.base CX k f fd ps sp) (hr : Room (k + 1) X.A) (hb : Binds X.K fd ps []) (hx : PassesAt CX X σ (E σ)) (I : Inv X pn σ H s) (r : Vals vs us)
    (h : ∀ x dx, H x = none → H dx = none → dx ≠ x → sp (.ref x :: vs) (upd (upd H dx (.own x)) x (.ins C dx [])) (fun v H2 => v = .non ∧ Q (.ref x) H2) (E σ)) : wpAny (model X.prog X.w) X.A (call (.ref C) us) (EP X pn σ Q) X.xe s := by
  have free1 : H (s.heap.objs.size + 1) = none := I.hok.fresh (Nat.le_succ _)
  have free0 : H s.heap.objs.size = none := I.hok.fresh (Nat.le_refl _)
  have made := h _ _ free1 free0 (Nat.ne_of_lt (Nat.lt_succ_self _))
  have J := Inv.made (C := C) I
  have vals : Vals (V.ref (s.heap.objs.size + 1) :: vs) (Value.ref (s.heap.objs.size + 1) :: us) := .cons rfl r
  have many : (Value.ref (s.heap.objs.size + 1) :: us).length = ps.length := vals.length.symm.trans (F.len _ _ _ _ made)
  have bound := hb _ (Value.ref (s.heap.objs.size + 1) :: us) J.kIn (by rw [List.append_nil]; exact many)
  rw [List.append_nil] at bound
  refine wpAny_call (make_map (f := f) I.kIn M.makes M.init (beq_iff_eq.mp M.fn) (codeAny_mono (F.run _ X.stack _ _ _ _ _ _ (E σ) (hr.make C us []) (J.env0.make C us []) bound vals made) fun res s' got => ?_))
  match res, got with
  | .error err, got => exact hx pn _ _ err s' J got
  | .ok (.ret u), got =>
    obtain ⟨v, H3, J3, rv, ev, q3⟩ := J.after got
    subst ev
    exact ⟨rv, ⟨V.ref (s.heap.objs.size + 1), H3, J3, rfl, q3⟩⟩
  | .ok .next, got => exact False.elim got
  | .ok .brk, got => exact False.elim got
  | .ok .cont, got => exact False.elim got
theorem pe_makeS (M : Mk X.K C f) (F : FnOk X.prog X.w X.K X.mg X.base CX k f fd ps sp) (hr : Room (k + 1) X.A) (hg : Gl X x) (hm : X.mg x = some (.ref C)) (hb : Binds X.K fd ps []) (hx : ∀ σ, PassesAt CX X σ (E σ)) (ha : PA X (e :: es) t)
    (hdb : (x == ("__debug__" : Str)) = false := by decide) (he : starEach (e :: es) X.env = (false, eval e X.env) :: starEach es X.env := by rfl) (hpl : (backTo pos (starEach es X.env)).any (·.1) = false := by rfl) : PE X (.Call (.Name x p) (e :: es) [] pos) (tMakeS C sp E t) :=
  ⟨fun pn s σ H Q I h => wpAny_Call_Name_kw (ld_glob I hg hm (PySem.W.callWith_K (h₀ := X.base) I.ok.mod.kin M.kp (thn (ha.run pos pn s σ H _ I h) fun us s1 ⟨vs, H1, I1, r, q⟩ => ⟨I1.kIn, goMakeS M F hr hb (hx σ) I1 r q⟩) he hpl) hdb)⟩
end
/-! a for by what holds of the slots -/
def GNxP (g : TG) (u : TS) (x : V) (σ : L2.St) (H : Hp) (P : L2.St → Prop) : Prop := ∀ H1, Ex H H1 → ∀ D : Ends, (∀ σ' H2, Ex H1 H2 → P σ' → D.nx σ' H2) → g x σ H1 fun σ2 H2 => u D σ2 H2
theorem gnxp_name {j : Nat} {u : TS} {x : V} {σ : L2.St} {H : Hp} {P : L2.St → Prop} (h : NxP u (σ.set j (some x)) H P) : GNxP (gName j) u x σ H P := fun H1 e D q => h H1 e D q
theorem nxp_for {wi : TI} {items : Nat → V} {n : Nat} {g : TG} {u : TS} {σ : L2.St} {H : Hp} (Iv : Nat → L2.St → Prop) (i0 : Iv 0 σ) (h : EvI wi σ H items n) (hs : ∀ i s, i < n → Iv i s → GNxP g u (items i) s H (Iv (i + 1))) : NxP (tFor wi g u) σ H (Iv n) := fun H1 e D q =>
  h H1 e _ fun J H2 e2 G => by
    refine ⟨fun i m s H3 => m = n - i ∧ i ≤ n ∧ Iv i s ∧ Ex H2 H3, ⟨n, by simp, Nat.zero_le _, i0, Ex.refl _⟩, ?_⟩
    rintro i m s H3 ⟨rfl, hi, hv, e3⟩
    by_cases hlt : i < n
    · refine .inr ⟨G.go i H3 e3 hlt, fun s' H' => Iv (i + 1) s' ∧ Ex H2 H', fun s' H' p => ⟨n - (i + 1), by omega, rfl, hlt, p.1, p.2⟩, fun x H' y => ?_⟩
      obtain ⟨rfl, rfl⟩ := G.yld i x H3 H' e3 hlt y
      exact hs i s hlt hv _ ((e.trans e2).trans e3) _ fun s' H4 e4 p => ⟨p, e3.trans e4⟩
    · obtain rfl : i = n := by omega
      exact .inl ⟨G.stop _ e3, q _ _ (e2.trans e3) hv⟩
theorem rv_notB {a b : Bool} {H : Hp} : RV rNotB (.bl a) (.bl b) H (.bl (!decide (a = b))) := fun H1 _ _ q => ⟨a, b, rfl, rfl, q H1 (Ex.refl H1)⟩
end Tk
namespace Tk
open PySem PySem.Spec PyProof.Rows L2 Evl NdefX LamX
/-! a function made by one def and handed to another: its cells are no frame of those that stand around -/
def CellsFar (cl : List (Str × Addr)) (outer : List Env) : Prop := ∀ y c, cl.lookup y = some c → c ∉ frs outer
structure FnOkC (P : Program) (w : World) (K : PySem.W.Frag) (mg : Str → Option Value) (base : Heap) (k : Nat) (f : Addr) (fd : FuncData) (ps : List Str) (cl : List (Str × Addr)) (fr : List Str) (ws : List (Option V)) (sp : Sp) : Prop where
  len : ∀ vs H Q E, sp vs H Q E → vs.length = ps.length
  run : ∀ (A : Around) (outer : List Env) (s : Shared) (H : Hp) (args : Args) (us : List Value) (vs : List V) (Q : VK) (E : XK), Room k A → Env0 P w K mg base A outer s H → CellsAt cl fr ws s.heap H → CellsFar cl outer → BindsTo s fd args (ps.zip us) → Vals vs us → sp vs H Q E →
    codeAny (model P w) A (.call (.ref f) args) (CR C8.CX0 outer P w H s Q E) s
section
variable {P : Program} {w : World} {K : PySem.W.Frag} {mg : Str → Option Value} {base : Heap}
theorem fn0C {x qual : Str} {st : Stmt} {f : Addr} {fd : FuncData} {N ps fr : List Str} {k : Nat} {sp : Sp} {cl : List (Str × Addr)} {ws : List (Option V)} (F : C8.Fun K x qual st f fd) (S : FnScope N ps (C8.fnScope st)) (len : ∀ vs H Q E, sp vs H Q E → vs.length = ps.length)
    (hbody : ∀ (cdv : Value) (A : Around) (outer : List Env) (s : Shared) (H : Hp) (vs : List V) (Q : VK) (E : XK), Room k (A.deeper (envOfC qual (C8.fnScope st) s.heap.objs.size f cdv)) → CellsAt cl fr ws s.heap H → CellsFar cl outer → sp vs H Q E →
      ∃ t, PSs (cxOf C8.CX0 P w K mg base N qual (C8.fnScope st) f cdv A outer s H E).nox (C8.fnBody st) t ∧ t { nx := fun _ H' => Q .non H', rt := Q } (L2.start N vs) H) : FnOkC P w K mg base (k + 1) f fd ps cl fr ws sp := by
  obtain ⟨oc, od, dV, kV, doc, pm, an, cdv, ct, osl, e0, lk, hcd⟩ := F.ex
  subst e0
  refine ⟨len, fun A outer s H args us vs Q E room st0 cells far bnd vals ok => ?_⟩
  have kin : K.In s.heap := st0.mod.kin.keeps fun b o z => (st0.bs b o z).1
  have nolim : s.heap.NoLimit := st0.mod.nolimit.keeps fun b o z => (st0.bs b o z).1
  have many : vs.length = ps.length := len _ _ _ _ ok
  have kinds : ∀ y ∈ ps.zip us, (C8.fnScope st).names.lookup y.1 = some .local ∨ ((C8.fnScope st).names.lookup y.1 = some .cell ∧ ((cellsFrom (s.heap.objs.size + 1) (C8.fnScope st).names []).lookup y.1).isSome = true) := by
    intro y hy
    rcases S.par y.1 (List.of_mem_zip (show (y.1, y.2) ∈ ps.zip us from hy)).1 with q | q
    · exact Or.inl q
    · exact Or.inr ⟨q, PySem.W.cellsFrom_some _ _ _ (Or.inl q)⟩
  refine codeAny_call_function room.depth (kin f _ lk) rfl S.co S.gen rfl (PySem.W.codeRec_of kin hcd) (bnd _ _ _ _ ?_)
  refine wpAny_newFunctionEnv_cells S.kind kinds fun env e1 s1 inC => ?_
  subst e1
  refine ⟨nolim.keeps inC.toInCall.keep, codeAny_func ?_⟩
  obtain ⟨t, run, post⟩ := hbody cdv A outer s H vs Q E (room.deeper _) cells far ok
  have start0 : Inv (cxOf C8.CX0 P w K mg base N qual (C8.fnScope st) f cdv A outer s H E) [] (L2.start N vs) H s1 := inv_start S room.hd st0 many vals inC
  refine wpAny_mono (run.nox.run [] s1 (L2.start N vs) H _ start0 post) (fun fl s2 done => ?_) fun _ _ z => z
  match fl, done with
  | .ret u, ⟨v, σ2, H2, J, rv, q⟩ => exact ⟨v, H2, J.os, J.bare, J.base, J.hok, rv, q⟩
  | .next, ⟨σ2, H2, J, q⟩ => exact ⟨V.non, H2, J.os, J.bare, J.base, J.hok, rfl, q⟩
  | .brk, ⟨_, _, _, q⟩ => exact q.elim
  | .cont, ⟨_, _, _, q⟩ => exact q.elim
end
section
variable {X : Cx} {pins : List (Addr × Obj)} {σ : L2.St} {H : Hp} {s : Shared} {cl : List (Str × Addr)} {ps fr : List Str} {ws : List (Option V)} {wsOf : L2.St → List (Option V)} {i j k : Nat} {x : Str} {e : Expr} {es : List Expr} {p pos : Pos} {t : TA}
/-- in the frame to which it was handed -/
theorem cells_later (I : Inv X pins σ H s) (hx : X.ex = []) (C : CellsAt cl fr ws X.s_0.heap X.H_0) (far : CellsFar cl X.outer) : CellsAt cl fr ws s.heap H := C.later far (fun y c _ z => by rw [hx] at z; cases z) I
/-- in the frame that made it -/
theorem far_made (I : Inv X pins σ H s) (hst : X.stack = X.env :: X.outer) (hfr : X.env.frame = some X.env.locals) (hfn : ∀ y, X.fn y = true) (hsub : ∀ y c, cl.lookup y = some c → X.env.cells.lookup y = some c) : CellsFar cl X.stack := fun y c e hb => by
  have e1 := hsub y c e
  have hb2 : c = X.env.locals ∨ c ∈ frs X.outer := by
    rw [hst] at hb
    unfold frs at hb ⊢
    rw [List.filterMap_cons, hfr] at hb
    exact List.mem_cons.mp hb
  rcases hb2 with z | z
  · obtain ⟨v, o, ho, hd⟩ := I.cell y c e1
    obtain ⟨m, ⟨o2, es, ep, ho2, hd2, _⟩, _⟩ := I.loc
    rw [z, ho2] at ho
    cases ho
    rw [hd2] at hd
    cases hd
  · have a := I.ok.cab y c (hfn y) e1
    obtain ⟨_, o, ho, _⟩ := I.ok.funs.mem z
    exact absurd (Heap.lt_size ho) (Nat.not_lt.mpr a)
/-- f(..), f a local that holds a function made by mk -/
def tCallG (mk : Addr → NF) (i : Nat) (wsOf : L2.St → List (Option V)) (sp : List (Option V) → Sp) (t : TA) : TE := fun σ H Q => ∃ f c', σ[i]? = some (some (.ref f)) ∧ H f = some (FnO f (mk c')) ∧
  t σ H fun vs H1 => H1 f = some (FnO f (mk c')) ∧ H1 (mk c').c = some (CodeO (mk c').c (mk c').qual) ∧ sp (wsOf σ) vs H1 Q C8.E0
theorem pe_callG {mk : Addr → NF} {sp : List (Option V) → Sp} (Fn : ∀ f c', NOk X.prog X.w X.K X.mg X.base C8.CX0 k f (mk c') ps fr sp) (hcl : ∀ c', (mk c').cl = cl) (C : ∀ pins σ H s, Inv X pins σ H s → CellsAt cl fr (wsOf σ) s.heap H) (hr : Room j X.A) (hk : k ≤ j) (hN : X.N[i]? = some x) (hv : Vis X.env.scope x)
    (ha : PA X (e :: es) t) (hd : (x == ("__debug__" : Str)) = false := by decide) (hcd : (x == ("__classdict__" : Str)) = false := by decide) (he : starEach (e :: es) X.env = (false, eval e X.env) :: starEach es X.env := by rfl)
    (hpl : (backTo pos (starEach es X.env)).any (·.1) = false := by rfl) : PE X (.Call (.Name x p) (e :: es) [] pos) (tCallG mk i wsOf sp t) := by
  constructor
  intro pins s σ H Q I h
  obtain ⟨f, c', at0, fo, ht⟩ := h
  have look := (pe_var (X := X) (pos := p) hN hv hd hcd).run pins s σ H (fun v H1 => v = .ref f ∧ H1 = H) I ⟨V.ref f, at0, rfl, rfl⟩
  refine wpAny_Call_Name_kw (thn look fun u s1 got => ?_)
  obtain ⟨v, H1, I1, r1, ev, eH⟩ := got
  subst ev
  rw [eH] at I1
  have eu : u = Value.ref f := r1
  subst eu
  refine PySem.W.callWith_F (first := []) (fnAt_of I1 fo) (thn (ha.run pos pins s1 σ H _ I1 ht) fun us s2 got2 => ?_) he hpl
  obtain ⟨vs, H2, I2, r, g1, g2, q⟩ := got2
  have cells := C pins σ H2 s2 I2
  rw [← hcl c'] at cells
  refine ⟨fnAt_of I2 g1, wpAny_call (codeAny_mono ((Fn f c').run X.A X.stack s2 H2 us vs (wsOf σ) Q C8.E0 (hr.mono hk) I2.env0 g1 g2 cells r q) fun res s3 got3 => ?_)⟩
  match res, got3 with
  | .error _, got3 => exact False.elim got3
  | .ok (.ret u2), got3 => exact I2.after got3
  | .ok .next, got3 => exact False.elim got3
  | .ok .brk, got3 => exact False.elim got3
  | .ok .cont, got3 => exact False.elim got3
theorem ev_callG {mk : Addr → NF} {R : List (Option V) → List V → Hp → V → Prop} {f c' : Addr} {vs : List V} {v : V} (hs : σ[i]? = some (some (.ref f))) (hf : H f = some (FnO f (mk c'))) (hc : H (mk c').c = some (CodeO (mk c').c (mk c').qual)) (ha : EvA t σ H vs) (hR : ∀ H1, Ex H H1 → R (wsOf σ) vs H1 v) :
    Ev (tCallG mk i wsOf (fun ws => spF (R ws)) t) σ H v := fun H1 e Q q =>
  ⟨f, c', hs, e _ _ hf, ha H1 e _ fun H2 e2 => ⟨(e.trans e2) _ _ hf, (e.trans e2) _ _ hc, v, fun H3 e3 => hR H3 ((e.trans e2).trans e3), fun H3 e3 => q H3 (e2.trans e3)⟩⟩
/-- a def of the module that is handed such a function -/
structure CalC (P : Program) (w : World) (K : PySem.W.Frag) (mg : Str → Option Value) (base : Heap) (k : Nat) (x : Str) (fr : List Str) (sp : List (Str × Addr) → List (Option V) → Sp) : Prop where
  ex : ∃ (f : Addr) (fd : FuncData) (ps : List Str), (∀ cl ws, FnOkC P w K mg base k f fd ps cl fr ws (sp cl ws)) ∧ mg x = some (.ref f) ∧ PySem.W.keepIn K (.ref f) = true ∧ Binds K fd ps []
def tCallC (cl : List (Str × Addr)) (wsOf : L2.St → List (Option V)) (sp : List (Str × Addr) → List (Option V) → Sp) (t : TA) : TE := fun σ H Q => t σ H fun vs H1 => sp cl (wsOf σ) vs H1 Q C8.E0
theorem pe_cC {sp : List (Str × Addr) → List (Option V) → Sp} (c : CalC X.prog X.w X.K X.mg X.base k x fr sp) (C : ∀ pins σ H s, Inv X pins σ H s → CellsAt cl fr (wsOf σ) s.heap H) (far : ∀ pins σ H s, Inv X pins σ H s → CellsFar cl X.stack) (hr : Room j X.A) (hk : k ≤ j) (hg : Gl X x) (ha : PA X (e :: es) t)
    (hdb : (x == ("__debug__" : Str)) = false := by decide) (he : starEach (e :: es) X.env = (false, eval e X.env) :: starEach es X.env := by rfl) (hpl : (backTo pos (starEach es X.env)).any (·.1) = false := by rfl) :
    PE X (.Call (.Name x p) (e :: es) [] pos) (tCallC cl wsOf sp t) := by
  obtain ⟨f, fd, ps, F, gm, kp, b⟩ := c.ex
  constructor
  intro pins s σ H Q I h
  refine wpAny_Call_Name_kw (ld_glob I hg gm (PySem.W.callWith_K (h₀ := X.base) I.ok.mod.kin kp (thn (ha.run pos pins s σ H _ I h) fun us s1 got => ?_) he hpl) hdb)
  obtain ⟨vs, H1, I1, r, q⟩ := got
  have many : us.length = ps.length := r.length.symm.trans ((F cl (wsOf σ)).len _ _ _ _ q)
  have bd := b s1 us I1.kIn (by rw [List.append_nil]; exact many)
  rw [List.append_nil] at bd
  refine ⟨I1.kIn, wpAny_call (codeAny_mono ((F cl (wsOf σ)).run X.A X.stack s1 H1 ⟨us, []⟩ us vs Q C8.E0 (hr.mono hk) I1.env0 (C pins σ H1 s1 I1) (far pins σ H1 s1 I1) bd r q) fun res s3 got3 => ?_)⟩
  match res, got3 with
  | .error _, got3 => exact False.elim got3
  | .ok (.ret u2), got3 => exact I1.after got3
  | .ok .next, got3 => exact False.elim got3
  | .ok .brk, got3 => exact False.elim got3
  | .ok .cont, got3 => exact False.elim got3
theorem ev_callC {R : List (Str × Addr) → List (Option V) → List V → Hp → V → Prop} {vs : List V} {v : V} (ha : EvA t σ H vs) (hR : ∀ H1, Ex H H1 → R cl (wsOf σ) vs H1 v) : Ev (tCallC cl wsOf (fun cl ws => spF (R cl ws)) t) σ H v := fun H1 e Q q =>
  ha H1 e _ fun H2 e2 => ⟨v, fun H3 e3 => hR H3 ((e.trans e2).trans e3), fun H3 e3 => q H3 (e2.trans e3)⟩
end
/-! what grows but for tables -/
theorem exN_l {K : PySem.W.Frag} {H H' : Hp} {a : Addr} {xs : List V} (e : ExtN H H') (h : SqL K H a xs) : SqL K H' a xs := by
  rcases h with (h | ⟨o, h⟩) | h
  · exact .inl (.inl (e _ _ h fun _ z => by cases z))
  · exact .inl (.inr ⟨o, e _ _ h fun _ z => by cases z⟩)
  · exact .inr h
theorem exN_t {H H' : Hp} {a : Addr} {xs : List V} (e : ExtN H H') (h : H a = some (.tup xs)) : H' a = some (.tup xs) := e _ _ h fun _ z => by cases z
theorem exN_lst {H H' : Hp} {a : Addr} {xs : List V} (e : ExtN H H') (h : H a = some (.lst xs)) : H' a = some (.lst xs) := e _ _ h fun _ z => by cases z
theorem exN_prs {H H' : Hp} {ps : List Addr} {vs : List (Int × Int)} (e : ExtN H H') (h : Prs H ps vs) : Prs H' ps vs := by
  induction h with
  | nil => exact .nil
  | cons h1 _ ih => exact .cons (exN_t e h1) ih
theorem exN_pairs {H H' : Hp} {l : Addr} {vs : List (Int × Int)} (e : ExtN H H') (h : PairsT H l vs) : PairsT H' l vs := by
  obtain ⟨ps, h1, h2⟩ := h
  exact ⟨ps, exN_lst e h1, exN_prs e h2⟩
theorem Ex.extN {H H' : Hp} (e : Ex H H') : ExtN H H' := fun b o h _ => e b o h
/-! for, from the end -/
theorem ei_revR {σ : L2.St} {H : Hp} {te : TE} {n : Int} (h : Ev te σ H (.int n)) (h0 : 0 ≤ n) (h1 : n < 2 ^ 62) : EvI (iRevR (tRg1 te)) σ H (fun i => .int (0 + (((n - 0).toNat : Nat) : Int) - 1 + (i : Nat) * (-1))) (n - 0).toNat := fun H1 e R q =>
  h H1 e _ fun H2 e2 => ⟨n, rfl, by omega, by omega, by omega, h1, q _ H2 e2 gen_c⟩
/-! a for each of whose turns goes on or hands back -/
theorem rtwp_for {wi : TI} {items : Nat → V} {n : Nat} {g : TG} {u tz : TS} {σ : L2.St} {H : Hp} {W : V → Hp → Prop} (Iv : Nat → L2.St → Prop) (i0 : Iv 0 σ) (h : EvI wi σ H items n) (hs : ∀ i s, i < n → Iv i s → GNxP g u (items i) s H (Iv (i + 1)) ∨ GRtW g u (items i) s H W)
    (rest : ∀ s, Iv n s → RtW tz s H W) : RtW (tSeq (tFor wi g u) tz) σ H W := fun H1 e D q =>
  h H1 e _ fun J H2 e2 G => by
    refine ⟨fun i m s H3 => m = n - i ∧ i ≤ n ∧ Iv i s ∧ Ex H2 H3, ⟨n, by simp, Nat.zero_le _, i0, Ex.refl _⟩, ?_⟩
    rintro i m s H3 ⟨rfl, hi, hv, e3⟩
    by_cases hlt : i < n
    · refine .inr ⟨G.go i H3 e3 hlt, fun s' H' => Iv (i + 1) s' ∧ Ex H2 H', fun s' H' p => ⟨n - (i + 1), by omega, rfl, hlt, p.1, p.2⟩, fun x H' y => ?_⟩
      obtain ⟨rfl, rfl⟩ := G.yld i x H3 H' e3 hlt y
      rcases hs i s hlt hv with z | z
      · exact z _ ((e.trans e2).trans e3) _ fun s' H4 e4 p => ⟨p, e3.trans e4⟩
      · exact z _ ((e.trans e2).trans e3) _ fun v H4 e4 w => q v H4 ((e2.trans e3).trans e4) w
    · obtain rfl : i = n := by omega
      exact .inl ⟨G.stop _ e3, rest s hv H3 ((e.trans e2).trans e3) D fun v H4 e4 w => q v H4 ((e2.trans e3).trans e4) w⟩
theorem rtwp_for0 {wi : TI} {items : Nat → V} {n : Nat} {g : TG} {u : TS} {σ : L2.St} {H : Hp} {W : V → Hp → Prop} (Iv : Nat → L2.St → Prop) (i0 : Iv 0 σ) (h : EvI wi σ H items n) (hs : ∀ i s, i < n → Iv i s → GNxP g u (items i) s H (Iv (i + 1)) ∨ GRtW g u (items i) s H W)
    (rest : ∀ s, Iv n s → False) : RtW (tFor wi g u) σ H W := fun H1 e D q =>
  h H1 e _ fun J H2 e2 G => by
    refine ⟨fun i m s H3 => m = n - i ∧ i ≤ n ∧ Iv i s ∧ Ex H2 H3, ⟨n, by simp, Nat.zero_le _, i0, Ex.refl _⟩, ?_⟩
    rintro i m s H3 ⟨rfl, hi, hv, e3⟩
    by_cases hlt : i < n
    · refine .inr ⟨G.go i H3 e3 hlt, fun s' H' => Iv (i + 1) s' ∧ Ex H2 H', fun s' H' p => ⟨n - (i + 1), by omega, rfl, hlt, p.1, p.2⟩, fun x H' y => ?_⟩
      obtain ⟨rfl, rfl⟩ := G.yld i x H3 H' e3 hlt y
      rcases hs i s hlt hv with z | z
      · exact z _ ((e.trans e2).trans e3) _ fun s' H4 e4 p => ⟨p, e3.trans e4⟩
      · exact z _ ((e.trans e2).trans e3) _ fun v H4 e4 w => q v H4 ((e2.trans e3).trans e4) w
    · obtain rfl : i = n := by omega
      exact (rest s hv).elim
theorem grtw_name2 {j : Nat} {u : TS} {x : V} {σ : L2.St} {H : Hp} {W : V → Hp → Prop} (h : RtW u (σ.set j (some x)) H W) : GRtW (gName j) u x σ H W := fun H1 e D q => h H1 e D q
/-! [f(a, b) for a, b in rows] -/
theorem el_lcP {K : PySem.W.Frag} {σ : L2.St} {H : Hp} {tl te : TE} {tt : TT} {a : Addr} {rs : List (Int × Int)} {i j : Nat} {vs : List Nat} (v : Nat → V) (h : Ev tl σ H (.ref a)) (hx : PairsT H a rs) (hz : rs.length ≤ 40000) (hw : ∀ x y, wipe (((wipe σ vs).set i (some x)).set j (some y)) vs = wipe σ vs)
    (ht : ∀ σ' H1, EvT tt σ' H1 true) (he : ∀ (k : Nat) (q : Int × Int) H1, Ex H H1 → rs[k]? = some q → Ev te (((wipe σ vs).set i (some (.int q.1))).set j (some (.int q.2))) H1 (v k)) :
    EvL (tLc (iList K tl) (gTup K 2 (gCons (gName i) (gCons (gName j) gNil))) tt te vs) σ H (given rs.length (fun _ => true) v) := by
  obtain ⟨ps, h1, h2⟩ := hx
  have len : (ps.map V.ref).length = rs.length := by rw [List.length_map]; exact h2.len
  rw [← len]
  intro H0 e Q q
  refine h H0 e _ fun H1 e1 => ⟨a, rfl, ⟨ps.map V.ref, sq_of ((e.trans e1) _ _ h1)⟩, fun Dl hD => ?_⟩
  refine lc_list (xs := ps.map V.ref) (Cw H1 (fun _ => true) v Dl) ⟨hD, Ex.new hD, upd_same⟩ (fun k H' _ p => sq_of (((e.trans e1).trans p.2.1) _ _ h1)) (fun k x H' hi p => ?_) fun H' p => q Dl H' (fresh_back e1 p.1) (e1.trans p.2.1) p.2.2
  rw [List.getElem?_map] at hi
  obtain ⟨b, hb, eb⟩ := Option.map_eq_some_iff.mp hi
  subst eb
  have hk : k < rs.length := by
    rw [← h2.len]
    exact (List.getElem?_eq_some_iff.mp hb).1
  obtain ⟨b', hb', ht'⟩ := h2.at (getD_some hk)
  rw [hb] at hb'
  cases hb'
  refine ⟨b, [.int (rs.getD k (0, 0)).1, .int (rs.getD k (0, 0)).2], rfl, st_of (((e.trans e1).trans p.2.1) _ _ ht'), rfl, _, _, rfl, _, _, rfl, rfl, hw _ _, ?_⟩
  exact cw_turn p (by omega) (ht _ H1) fun _ => he k _ H1 (e.trans e1) (getD_some hk)
theorem given_all (n : Nat) (v : Nat → V) : given n (fun _ => true) v = (List.range n).map v := by
  unfold given
  rw [List.filter_eq_self.mpr fun _ _ => rfl]
end Tk
namespace Tk
open PySem PySem.Spec PyProof.Rows L2 Evl
/-! an exception of an own class, held as a value -/
def IsEx (H : Hp) (a D : Addr) : Prop := H a = some (ExO (.ref D) a) ∨ ∃ (d : Addr) (fs : List (Str × V)), H a = some (exo a D (some d)) ∧ H d = some (exd d fs)
theorem IsEx.mono {H H' : Hp} {a D : Addr} (e : Ex H H') (h : IsEx H a D) : IsEx H' a D := h.imp (fun z => e _ _ z) fun ⟨d, fs, h1, h2⟩ => ⟨d, fs, e _ _ h1, e _ _ h2⟩
theorem IsEx.inst {P : Program} {w : World} {H : Hp} {h : Heap} {a D : Addr} (ok : HOk P w H h) (z : IsEx H a D) : ∃ ox od, PySem.W.InstAt h a ox D od := by
  rcases z with z | ⟨d, fs, h1, h2⟩
  · obtain ⟨⟨oe, vs, g, hz, hd, _⟩, _, _⟩ := ok a _ z
    obtain ⟨oc, od, oda, osl⟩ := oe
    obtain ⟨e1, e2⟩ := hz
    dsimp only at e1 e2 hd
    subst e1 e2 hd
    exact ⟨_, none, ⟨g, rfl, rfl, trivial⟩⟩
  · obtain ⟨t1, g⟩ := exo_at ok h1
    obtain ⟨mA, ⟨o, es, ep, ho, _⟩, _⟩ := exd_at ok h2
    exact ⟨_, some o, ⟨g, rfl, rfl, ho⟩⟩
/-- isinstance(e, c) -/
def rIsX (K : PySem.W.Frag) : List V → Hp → VK → Prop := fun xs H Q => ∃ (a D : Addr) (c : V) (cv : Value) (b : Bool), xs = [.ref a, c] ∧ ExcC K D ∧ IsEx H a D ∧ ClsV c cv ∧ PySem.W.kitOne K (.ref D) cv = some b ∧ Q (.bl b) H
theorem call_isX {X : Cx} : CallR X (.builtin "isinstance") (rIsX X.K) := by
  intro pins s σ H xs us Q I r h
  obtain ⟨a, D, c, cv, b, rfl, C, hx, hc, hk, q⟩ := h
  obtain ⟨u, u2, rfl, ru, ru2⟩ := vals2 r
  obtain rfl : u = Value.ref a := ru
  obtain rfl := hc.eq ru2
  obtain ⟨ox, od, J⟩ := hx.inst I.hok
  obtain ⟨cd, hcd, _⟩ := PySem.W.any_some C.hd
  exact PySem.W.kia_one (PySem.W.kitx_exc (by rw [hcd]; rfl) C.hg C.hk C.hs C.ha C.hn C.ht C.hm) I.kIn J hk (fun z => nomatch z) fun tk => ⟨.bl b, H, I.kept (t' := tk) fun _ _ z => z, rfl, q⟩
theorem ev_isX {K : PySem.W.Frag} {σ : L2.St} {H : Hp} {ta tb : TE} {a D : Addr} {c : V} {cv : Value} {b : Bool} (ha : Ev ta σ H (.ref a)) (hb : Ev tb σ H c) (C : ExcC K D) (hx : IsEx H a D) (hc : ClsV c cv) (hk : PySem.W.kitOne K (.ref D) cv = some b) : Ev (tCB (rIsX K) (tCons ta (tCons tb tNil))) σ H (.bl b) := fun H1 e Q q =>
  ha H1 e _ fun H2 e2 => hb H2 (e.trans e2) _ fun H3 e3 => ⟨a, D, c, cv, b, rfl, C, hx.mono ((e.trans e2).trans e3), hc, hk, q H3 (e2.trans e3)⟩
/-- e.f -/
def tXv (K : PySem.W.Frag) (f : Str) (te : TE) : TE := fun σ H Q => te σ H fun x H1 => ∃ (a C d : Addr) (fs : List (Str × V)) (v : V), x = .ref a ∧ ExcC K C ∧ PySem.W.findIn K (.ref C) f = some none ∧ H1 a = some (exo a C (some d)) ∧ H1 d = some (exd d fs) ∧ fs.lookup f = some v ∧ Q v H1
theorem pe_xv {X : Cx} {e : Expr} {te : TE} {pos : Pos} {f : Str} (he : PE X e te) (hb : attributeBase e f X.env (eval e X.env) = eval e X.env := by rfl) : PE X (.Attribute e f pos) (tXv X.K f te) := by
  constructor
  intro pins s σ H Q I h
  refine attr_of hb (thn (he.run pins s σ H _ I h) fun u s1 got => ?_)
  obtain ⟨x, H1, I1, rx, a, C, d, fs, v, ex, T, no, ha, hd, hl, q⟩ := got
  subst ex
  obtain rfl : u = Value.ref a := rx
  obtain ⟨t1, g⟩ := exo_at I1.hok ha
  obtain ⟨mA, hns, hr⟩ := exd_at I1.hok hd
  obtain ⟨od, ho, hlk⟩ := lookIn_ns hns
  obtain ⟨u, hu, ru⟩ := RelO.some_of (v := v) (o := mA f) (by rw [← hl]; exact hr f)
  have J : PySem.W.InstAt s1.heap a _ C (some od) := ⟨g, rfl, rfl, ho⟩
  exact HandSPX.exc_get I1.kIn J T.hg T.hk T.hs (PySem.W.findObj_own T.hd no rfl (by rw [hlk, hu])) (handed_of ru) ⟨v, H1, I1.tok _, ru, q⟩
theorem ev_xv {K : PySem.W.Frag} {σ : L2.St} {H : Hp} {te : TE} {a C d : Addr} {fs : List (Str × V)} {v : V} {f : Str} (h : Ev te σ H (.ref a)) (T : ExcC K C) (no : PySem.W.findIn K (.ref C) f = some none) (ha : H a = some (exo a C (some d))) (hd : H d = some (exd d fs)) (hl : fs.lookup f = some v) : Ev (tXv K f te) σ H v := fun H1 e Q q =>
  h H1 e _ fun H2 e2 => ⟨a, C, d, fs, v, rfl, T, no, (e.trans e2) _ _ ha, (e.trans e2) _ _ hd, hl, q H2 e2⟩
/-- X(text), X without an __init__ -/
theorem evw_exc1 {σ : L2.St} {H : Hp} {ta : TE} {C : Addr} {v : V} (h : Ev ta σ H v) : EvW (fun σ H Q => ta σ H fun _ H1 => ∀ a, H1 a = none → Q (.ref a) (upd H1 a (ExO (.ref C) a))) σ H (fun v H2 => ∃ a, v = .ref a ∧ IsEx H2 a C) := fun H1 e Q q =>
  h H1 e _ fun H2 e2 a na => q _ _ (e2.trans (Ex.new na)) ⟨a, rfl, .inl upd_same⟩
/-! super().__init__(text), first in an own __init__ -/
section
variable {prog : Program} {w : World} {A : Around} {E : Value → Shared → Prop} {h : Heap} {g : Array GenState} {d : Drawn} {t : Nat} {os : OsState}
theorem call_mw {newId i B : String} {bmB : List Value} (FB : ExcBaseFacts B newId i bmB) {nm q : Str} {C N u e t0 : Addr} {bs bm : List Value} {hdct : Bool} {sn : List Str} {sub : List Value} {ab : Bool} {col : Option Bool} {dd dv : Option Addr} {k0 k1 k2 k3 k5 : Option Value} {c2 : Value} {rest : List Value} {Q : Value → Shared → Prop}
    (hC : h.get? C = some (excClassObj nm q C N bs bm hdct sn sub ab col dd k0 k1 k2 k3 k5 newId)) (hu : h.get? u = some (PySem.W.kxs_mw i e)) (he : h.get? e = some (PySem.W.excObj C t0 dv c2)) (hz : rest.length ≤ sizeLine)
    (hq : ∀ h' t1, (∀ b o, b ≠ e → h.get? b = some o → h'.get? b = some o) → h'.get? e = some (PySem.W.excObj C t1 dv c2) → Q .none ⟨h', g, d, t, os⟩) : wpAny (model prog w) A (call (.ref u) rest) Q E ⟨h, g, d, t, os⟩ := by
  refine wpAny_call (codeAny_of_tree ?_)
  show wpAny _ A.in1 (callAny (.ref u) ⟨rest, []⟩) _ _ _
  unfold callAny
  refine wpAny_bind (wpAny_load hu ?_)
  have kind : (Value.type "method-wrapper" == Value.type "method" || Value.type "method-wrapper" == Value.type "builtin_function_or_method" || Value.type "method-wrapper" == Value.type "method-wrapper") = true := by decide
  simp only [PySem.W.kxs_mw, kind, if_true]
  refine PySem.W.KFB.if_so (by decide) (wpAny_bind (PySem.W.check_bound_init FB.toExcCallFacts hC he rfl (wpAny_bind (wpAny_pure (wpAny_pure ?_)))))
  exact ⟨plainId_quiet FB.init.plain _, codeAny_builtin FB.initEntry (PySem.W.exc_init_tree (cls := .ref C) (t0 := t0) (dv := dv) (c2 := c2) (c3 := .none) (b4 := .bool false) he hz fun h' k1 k2 _ => hq h' _ k1 k2)⟩
end
/-- what the written part says of a class whose __init__ says super().__init__ -/
structure SupC (K : PySem.W.Frag) (P : Program) (D f cc cda : Addr) : Prop where
  ox : OexC K D
  cell : ∃ cl cld csl, K.lookup cc = some ⟨cl, cld, .cell (some (.ref D)), csl⟩
  code : ∃ ccl cdd vs ccs file tf, K.lookup cda = some ⟨ccl, cdd, .fields vs, ccs⟩ ∧ (vs[2]? : Option Value) = some (.str file tf) ∧ ((P.main.file : Str) == file) = true
  top : (P.main.scope.names.lookup ("super" : Str)).isSome = false
  self : PySem.W.mroIn K D (.ref D) = some true
  ve : PySem.W.subIn K (.ref D) (.type "ValueError") = some true
  opq : PySem.W.nsIn K cStatics "thirdparty.any" = some none
  sup : PySem.W.ks_superIn K D D "__init__" = some (some (.builtin "ValueError.__init__"))
theorem at_super {X : Cx} {body rest : List Stmt} {f cc cda D : Addr} {fd : FuncData} {ar : Arg} {oc : Value} {od : Option Addr} {osl : Array (Option Value)} {p0 p1 ap pos pos2 : Pos} {e : Expr} {te : TE} {t : TS} {pl : Sem Bool} (S : SupC X.K X.prog D f cc cda) (lk : X.K.lookup f = some ⟨oc, od, .func fd, osl⟩)
    (hms : X.mg "super" = none) (hfu : X.env.func = some f) (hco : X.env.code = .ref cda) (hcl : X.env.cells.lookup ("__class__" : Str) = some cc) (hks : X.env.kindOf "super" = some .globalImplicit) (hkc : X.env.kindOf "__class__" = some .free) (hka : X.env.kindOf ar.arg = some .local)
    (hp : (fd.params.posonlyargs ++ fd.params.args).head? = some ar) (hN : X.N[0]? = some ar.arg) (he : PE X e te) (hrest : PSs X rest t) {pins : List (Addr × Obj)} {σ : L2.St} {H : Hp} {s : Shared} {a : Addr} {Dn : Ends} (I : Inv X pins σ H s) (hσ : σ[0]? = some (some (.ref a))) (ha : H a = some (exo a D none)) (hv : EvW te σ H (fun _ _ => True)) (q : ∀ H1, Ex H H1 → t Dn σ H1)
    (hi : interactive X.env = false := by rfl) (hs : swapsWith (.Call (.Attribute (.Call (.Name "super" p0) [] [] p1) "__init__" ap) [e] [] pos) none pos2.line X.env = pure false := by rfl)
    (hc : eval (.Call (.Attribute (.Call (.Name "super" p0) [] [] p1) "__init__" ap) [e] [] pos) X.env = (do
      let ov ← attributeBase (.Call (.Name "super" p0) [] [] p1) "__init__" X.env (eval (.Call (.Name "super" p0) [] [] p1) X.env)
      standAt ap.atName
      let (f, first) ← holding [ov] (getMethod ov "__init__" pl)
      callWith pos f first (backTo pos (starEach [e] X.env)) []) := by rfl)
    (hst : starEach [e] X.env = (false, eval e X.env) :: starEach [] X.env := by rfl) (hpl : (backTo pos (starEach [] X.env)).any (·.1) = false := by rfl) :
    _root_.PySem.wpAt (model X.prog X.w) X.A (.func body X.env) (execs (.Expr (.Call (.Attribute (.Call (.Name "super" p0) [] [] p1) "__init__" ap) [e] [] pos) pos2 :: rest) X.env) (SP X pins Dn) X.xe s := by
  obtain ⟨hh, g, d, t0, os⟩ := s
  have X1 : X.K.In hh := I.kIn
  obtain ⟨ccl, cdd, vsc, ccs, file, tf, hcode, hvs, hfile⟩ := S.code
  obtain ⟨cl, cld, csl, hcell⟩ := S.cell
  obtain ⟨nm, qn, N', bs, bm, sn, sub, ab, col, dd, k0, k1, k2, k3, k5, hC, hbm⟩ := S.ox.cls
  obtain ⟨t1, hx⟩ := exo_at I.hok ha
  obtain ⟨m, hns, hloc⟩ := I.loc
  obtain ⟨mb, hb1, hb2⟩ := I.mod.blt
  have self : m ar.arg = some (.ref a) := by
    obtain ⟨u, ru, look⟩ := hloc 0 ar.arg (.ref a) hN hσ (Or.inl hka)
    obtain rfl : u = Value.ref a := ru
    rcases look with ⟨_, z⟩ | ⟨z, _⟩
    · exact z
    · rcases z with z | z <;> rw [hka] at z <;> cases z
  refine PySem.ks_wpAt_execs_cons (PySem.ks_wpAt_Expr_any (PySem.ks_wpAt_MethodCall (pl := pl) ?_ hc) hi hs)
  have hD := X1 _ _ hC
  refine PySem.ks_wpAt_super_base hks hkc (by decide) hfu (X1 _ _ lk) rfl hp hco (X1 _ _ hcode) rfl hvs hfile S.top ?_
  refine PySem.W.ks_loadName_global I.ok.kind hks (Calls.loadGlobal_builtin (by rw [I.ok.glob]; exact I.mod.glob.keeps I.bk) hms (by rw [I.ok.blt]; exact hb1.keeps I.bk) ((hb2 _ (by decide +kernel)).trans PyProof.Rows.Boot.super) ⟨rfl, ?_⟩)
  refine wpAny_loadName_free I.ok.kind hkc hcl ⟨_, X1 _ _ hcell, rfl⟩ ?_
  refine wpAny_loadName_local I.ok.kind hka hns self ?_
  refine PySem.ks_wpAny_isType_cls hD rfl ⟨rfl, ?_⟩
  refine PySem.ks_wpAny_call_super hD rfl hx rfl (fun c z => by cases z) (PySem.W.looks_mroIn X1 S.self) fun h2 hso kk => ?_
  have I2 : Inv X pins σ H ⟨h2, g, d, t0, os⟩ := I.kept kk
  have X2 : X.K.In h2 := I2.kIn
  have J2 : PySem.W.InstAt h2 a _ D none := ⟨kk _ _ hx, rfl, rfl, trivial⟩
  cases hcd : PySem.W.clsIn X.K D with
  | none =>
    have z := S.sup
    unfold PySem.W.ks_superIn at z
    rw [hcd] at z
    cases z
  | some cd =>
    have sup := S.sup
    unfold PySem.W.ks_superIn at sup
    rw [hcd] at sup
    refine PySem.W.kxs_getMethod PySem.W.kxs_ValueError hso (PySem.W.looks_opaque X2 S.opq) (l₀ := cd.mro) (fun A Q E s k q => wpAny_bind ((PySem.W.looks_clsIn X2 hcd) A _ E s k (wpAny_pure q))) rfl X2 sup (J2.type.andThen (PySem.W.looks_subIn X2 S.ve)) (PySem.W.ks_ne X2 J2 hcd) (by decide) ?_
    have push : ∀ b o, h2.get? b = some o → (h2.push (PySem.W.kxs_mw "ValueError.__init__" a)).get? b = some o := fun b o z => Heap.get?_push_of_some _ z
    have I3 : Inv X pins σ H ⟨h2.push (PySem.W.kxs_mw "ValueError.__init__" a), g, d, t0 + 1, os⟩ := I2.kept push
    have hu : (h2.push (PySem.W.kxs_mw "ValueError.__init__" a)).get? h2.objs.size = some (PySem.W.kxs_mw "ValueError.__init__" a) := Heap.get?_push_size _ rfl
    have below : ∀ b, (∃ o, h2.get? b = some o) → h2.objs.size ≠ b := fun b ⟨o, z⟩ => Ne.symm (Nat.ne_of_lt (Heap.lt_size z))
    have I4 : Inv X ((h2.objs.size, PySem.W.kxs_mw "ValueError.__init__" a) :: pins) σ H ⟨h2.push (PySem.W.kxs_mw "ValueError.__init__" a), g, d, t0 + 1, os⟩ := I3.pins_of fun p hp => by
      rcases List.mem_cons.mp hp with rfl | hp
      · refine ⟨hu, I2.hok.fresh (Nat.le_refl _), ?_, fun z => ?_, fun v z => by cases z⟩
        · obtain ⟨m2, ⟨o, es, ep, z, _⟩, _⟩ := I2.loc
          exact below _ ⟨o, z⟩
        · obtain ⟨_, o, z1, _⟩ := I2.ok.funs.mem z
          obtain ⟨o2, z2⟩ := I2.base.there _ o z1 fun w => I2.ok.exfs _ w z
          exact below _ ⟨o2, z2⟩ rfl
      · exact I3.pin p (List.mem_append_right _ hp)
    have args := (pa_cons (hs := hst) he pa_nil).run pos _ _ σ H (fun vs H2 => vs.length = 1 ∧ Ex H H2) I4 (hv H (Ex.refl H) _ fun v H2 e2 _ => ⟨rfl, e2⟩)
    rw [hst] at args ⊢
    refine PySem.W.kxs_callWith (i := "ValueError.__init__") (x := a) (by show (false || (backTo pos (starEach [] X.env)).any (·.1)) = false; rw [hpl]; rfl) (PySem.Calls.evalArgs_plain (thn args fun us s4 got => ?_))
    obtain ⟨vs, H4, I5, r5, ev, e4⟩ := got
    have hu4 : s4.heap.get? h2.objs.size = some (PySem.W.kxs_mw "ValueError.__init__" a) := (I5.pin (h2.objs.size, PySem.W.kxs_mw "ValueError.__init__" a) (List.mem_append_right _ List.mem_cons_self)).1
    refine ⟨hu4, ?_⟩
    have ha4 := e4 _ _ ha
    obtain ⟨t4, hx4⟩ := exo_at I5.hok ha4
    have X5 := I5.kIn
    obtain ⟨h4, g4, d4, tk4, os4⟩ := s4
    refine call_mw F.excBase_ValueError (X5 _ _ hC) hu4 hx4 (by show us.length ≤ sizeLine; rw [← r5.length, ev, sizeLine_eq]; omega) fun h5 t5 k6 hx5 => ?_
    have J5 := I5.write (t' := tk4) (x := a) (e := a) (o := exo a D none) (by rw [ha4]; exact True.intro) (.inl rfl) k6 ⟨_, hx5⟩ (exo_ok hx5)
    have eu : upd H4 a (exo a D none) = H4 := by
      funext b
      by_cases hb : b = a
      · rw [hb, upd_same, ha4]
      · rw [upd_ne hb]
    rw [eu] at J5
    have J6 : Inv X pins σ H4 ⟨h5, g4, d4, tk4, os4⟩ := J5.pins_of fun p hp => J5.pin p (List.mem_append_right _ (List.mem_cons_of_mem _ hp))
    exact wpAt_of_wpAny (hrest.run pins _ σ H4 Dn J6 (q H4 e4))
/-- an __init__ that says super().__init__ first: its frame -/
abbrev nfS (qual : Str) (st : Stmt) (cc cda : Addr) : NdefX.NF := ⟨"__init__", qual, C8.fnArgs st, C8.fnBody st, C8.fnScope st, [("__class__", cc)], cda⟩
section
variable {P : Program} {w : World} {K : PySem.W.Frag} {mg : Str → Option Value} {base : Heap}
theorem fn_sup {qual : Str} {st : Stmt} {f D cc cda : Addr} {oc kV doc pm ct : Value} {od an : Option Addr} {osl : Array (Option Value)} {N ps : List Str} {k : Nat} {sp : Sp}
    (lk : K.lookup f = some ⟨oc, od, .func (PySem.W.fnX "__init__" qual (C8.fnArgs st) (C8.fnBody st) (C8.fnScope st) [("__class__", cc)] .none kV doc pm an (.ref cda) ct), osl⟩) (hcd : PySem.W.codeIn K (.ref cda) qual = true) (hcc : ∃ cl cld csl, K.lookup cc = some ⟨cl, cld, .cell (some (.ref D)), csl⟩)
    (S : NdefX.NScope N ps ["__class__"] (C8.fnScope st)) (len : ∀ vs H Q E, sp vs H Q E → vs.length = ps.length)
    (hbody : ∀ (A : Around) (outer : List Env) (s s1 : Shared) (H : Hp) (vs : List V) (Q : VK) (E : XK), Room k (A.deeper (NdefX.envF (nfS qual st cc cda) f s.heap.objs.size)) → sp vs H Q E → Inv (NdefX.ncx C8.CX0 P w K mg base N (nfS qual st cc cda) f A outer s H E) [] (NdefX.startF N vs [some (.ref D)]) H s1 →
      _root_.PySem.wpAt (model P w) (A.deeper (NdefX.envF (nfS qual st cc cda) f s.heap.objs.size)) (.func (C8.fnBody st) (NdefX.envF (nfS qual st cc cda) f s.heap.objs.size)) (execs (C8.fnBody st) (NdefX.envF (nfS qual st cc cda) f s.heap.objs.size))
        (SP (NdefX.ncx C8.CX0 P w K mg base N (nfS qual st cc cda) f A outer s H E) [] { nx := fun _ H' => Q .non H', rt := Q }) (NdefX.ncx C8.CX0 P w K mg base N (nfS qual st cc cda) f A outer s H E).xe s1) :
    FnOk P w K mg base C8.CX0 (k + 1) f (PySem.W.fnX "__init__" qual (C8.fnArgs st) (C8.fnBody st) (C8.fnScope st) [("__class__", cc)] .none kV doc pm an (.ref cda) ct) ps sp := by
  refine ⟨len, fun A outer s H args us vs Q E room st0 bnd vals ok => ?_⟩
  have kin : K.In s.heap := st0.mod.kin.keeps fun b o z => (st0.bs b o z).1
  have nolim : s.heap.NoLimit := st0.mod.nolimit.keeps fun b o z => (st0.bs b o z).1
  have many : vs.length = ps.length := len _ _ _ _ ok
  obtain ⟨cl, cld, csl, hcell⟩ := hcc
  have one : ∀ y c, ([("__class__", cc)] : List (Str × Addr)).lookup y = some c → y = "__class__" ∧ c = cc := fun y c e => by
    cases List.mem_singleton.mp (PySem.mem_of_lookup e)
    exact ⟨rfl, rfl⟩
  have at_ : s.heap.IsCell cc (some (.ref D)) := ⟨_, kin _ _ hcell, rfl⟩
  have cells : NdefX.CellsAt [("__class__", cc)] ["__class__"] [some (.ref D)] s.heap H := by
    refine ⟨rfl, fun y c e => ?_, fun x y c e1 e2 => (one x c e1).1.trans (one y c e2).1.symm, fun i y e => ?_⟩
    · rw [(one y c e).2]
      exact ⟨(st0.bs cc _ (st0.mod.kin cc _ hcell)).2, _, at_⟩
    · cases i with
      | zero =>
        rw [List.getElem?_cons_zero] at e
        injection e with e
        subst e
        refine ⟨cc, rfl, fun v ev => ⟨.ref D, ?_, at_⟩⟩
        rw [List.getElem?_cons_zero] at ev
        injection ev with ev
        injection ev with ev
        subst ev
        rfl
      | succ i => simp at e
  refine PySem.ks_codeAny_call_defAt (fd := PySem.W.fnX "__init__" qual (C8.fnArgs st) (C8.fnBody st) (C8.fnScope st) [("__class__", cc)] .none kV doc pm an (.ref cda) ct) (body := C8.fnBody st) (binds := ps.zip us) room.depth (kin f _ lk) rfl nolim (PySem.W.codeRec_of kin hcd) rfl bnd S.nocell (fun y hy => S.par y.1 (List.of_mem_zip (show (y.1, y.2) ∈ ps.zip us from hy)).1) (fun h0 hns keep => ?_) S.co S.gen S.kind
  have I : Inv (NdefX.ncx C8.CX0 P w K mg base N (nfS qual st cc cda) f A outer s H E) [] (NdefX.startF N vs [some (.ref D)]) H { s with heap := h0, toks := s.toks + (ps.zip us).length } := NdefX.inv_startN S room.hd st0 many vals cells hns keep
  refine PySem.ks_wpAt_mono (hbody A outer s _ H vs Q E (room.deeper _) ok I) (fun fl s2 done => ?_) fun _ _ z => z
  match fl, done with
  | .ret u, ⟨v, σ2, H2, J, rv, q⟩ => exact ⟨v, H2, J.os, J.bare, J.base, J.hok, rv, q⟩
  | .next, ⟨σ2, H2, J, q⟩ => exact ⟨V.non, H2, J.os, J.bare, J.base, J.hok, rfl, q⟩
  | .brk, ⟨_, _, _, q⟩ => exact q.elim
  | .cont, ⟨_, _, _, q⟩ => exact q.elim
end
/-- X(..), X with such an __init__: the new exception -/
def tMkX (C : Addr) (sp : Sp) (ta : TA) : TE := fun σ H Q => ta σ H fun vs H1 => vs.length ≤ 1000 ∧ ∀ a, H1 a = none → sp (.ref a :: vs) (upd H1 a (exo a C none)) (fun v H2 => v = .non ∧ Q (.ref a) H2) C8.E0
theorem pe_mkX {X : Cx} {x : Str} {C fI : Addr} {k j : Nat} {fd : FuncData} {ps : List Str} {sp : Sp} {e : Expr} {es : List Expr} {ta : TA} {p pos : Pos} (T : OexC X.K C) (iC : PySem.W.findIn X.K (.ref C) "__init__" = some (some (.ref fI))) (tI : PySem.W.typeIn X.K (.ref fI) = some (.type "function"))
    (F1 : FnOk X.prog X.w X.K X.mg X.base C8.CX0 k fI fd ps sp) (hr : Room j X.A) (hk : k + 1 ≤ j) (hb : Binds X.K fd ps []) (hg : Gl X x) (hm : X.mg x = some (.ref C)) (ha : PA X (e :: es) ta) (hdb : (x == ("__debug__" : Str)) = false := by decide)
    (he : starEach (e :: es) X.env = (false, eval e X.env) :: starEach es X.env := by rfl) (hpl : (backTo pos (starEach es X.env)).any (·.1) = false := by rfl) : PE X (.Call (.Name x p) (e :: es) [] pos) (tMkX C sp ta) := by
  constructor
  intro pins s σ H Q I h
  obtain ⟨nm, q, N, bs, bm, sn, sub, ab, col, dd, k0, k1, k2, k3, k5, hC, hbm⟩ := T.cls
  refine wpAny_Call_Name_kw (ld_glob I hg hm (PySem.W.callWith_K (h₀ := X.base) I.ok.mod.kin T.kC (thn (ha.run pos pins s σ H _ I h) fun us s1 got => ?_) he hpl) hdb)
  obtain ⟨vs, H1, I1, r1, hz, q1⟩ := got
  refine ⟨I1.kIn, ?_⟩
  show wpAny _ _ (call (.ref C) us) _ _ _
  obtain ⟨hp, g, dr, tk, os⟩ := s1
  have hq := q1 (hp.objs.size + 1) (I1.hok.fresh (Nat.le_succ _))
  have grow : ∀ b o, hp.get? b = some o → ((hp.push (PySem.W.kdv_tup us)).push (PySem.HandSPX.excO C hp.objs.size)).get? b = some o := fun b o z => Heap.get?_push_of_some _ (Heap.get?_push_of_some _ z)
  have there : ((hp.push (PySem.W.kdv_tup us)).push (PySem.HandSPX.excO C hp.objs.size)).get? (hp.objs.size + 1) = some (PySem.HandSPX.excO C hp.objs.size) := by heap_get
  have J : Inv X pins σ (upd H1 (hp.objs.size + 1) (exo (hp.objs.size + 1) C none)) ⟨(hp.push (PySem.W.kdv_tup us)).push (PySem.HandSPX.excO C hp.objs.size), g, dr, tk, os⟩ := I1.laid grow (Nat.le_succ _) (exo_ok there)
  have vals : Vals (V.ref (hp.objs.size + 1) :: vs) (Value.ref (hp.objs.size + 1) :: us) := .cons rfl r1
  have many : (Value.ref (hp.objs.size + 1) :: us).length = ps.length := vals.length.symm.trans (F1.len _ _ _ _ hq)
  have bound := hb ⟨(hp.push (PySem.W.kdv_tup us)).push (PySem.HandSPX.excO C hp.objs.size), g, dr, tk, os⟩ (Value.ref (hp.objs.size + 1) :: us) J.kIn (by rw [List.append_nil]; exact many)
  rw [List.append_nil] at bound
  have small : us.length ≤ sizeLine := by
    rw [← r1.length, sizeLine_eq]
    omega
  refine wpAny_call (PySem.HandSPX.call_own F.excBase_ValueError (fun Y => PySem.HandSPX.refsVE_contains Y bm hbm) (I1.kIn _ _ hC) (PySem.W.looks_findIn I1.kIn iC) (fun self => PySem.W.bind_fn I1.kIn self tI) small
    (codeAny_mono (F1.run _ X.stack _ _ _ _ _ _ C8.E0 ((hr.mono hk).make C us []) (J.env0.make C us []) bound vals hq) fun res s2 got => ?_))
  match res, got with
  | .error _, got => exact False.elim got
  | .ok (.ret u), got =>
    obtain ⟨v, H3, J3, rv, ev, q3⟩ := J.after got
    subst ev
    exact ⟨rv, ⟨V.ref (hp.objs.size + 1), H3, J3, rfl, q3⟩⟩
  | .ok .next, got => exact False.elim got
  | .ok .brk, got => exact False.elim got
  | .ok .cont, got => exact False.elim got
/-- what such an __init__ promises: the fields of these arguments -/
def spX (C : Addr) (Dm : List V → Prop) (mk : List V → List (Str × V)) : Sp := fun vs H Q _ => ∃ (a : Addr) (as : List V), vs = .ref a :: as ∧ H a = some (exo a C none) ∧ Dm as ∧ as.length ≤ 1000 ∧ ∀ H2 d, (∀ b o, b ≠ a → H b = some o → H2 b = some o) → H2 a = some (exo a C (some d)) → H2 d = some (exd d (mk as)) → Q .non H2
theorem evw_mkX {σ : L2.St} {H : Hp} {C : Addr} {Dm : List V → Hp → Prop} {mk : List V → List (Str × V)} {ta : TA} {vs : List V} (h : EvA ta σ H vs) (hl : vs.length ≤ 1000) (sp : Sp) (hsp : ∀ H1 a Q, Ex H H1 → H1 a = none → (∀ H2 d, (∀ b o, b ≠ a → (upd H1 a (exo a C none)) b = some o → H2 b = some o) → H2 a = some (exo a C (some d)) → H2 d = some (exd d (mk vs)) → Q .non H2) → sp (.ref a :: vs) (upd H1 a (exo a C none)) Q C8.E0) :
    EvW (tMkX C sp ta) σ H (fun v H2 => ∃ a d, v = .ref a ∧ H2 a = some (exo a C (some d)) ∧ H2 d = some (exd d (mk vs))) := fun H1 e Q q =>
  h H1 e _ fun H2 e2 => ⟨hl, fun a na => hsp H2 a _ (e.trans e2) na fun H3 d keep h1 h2 => ⟨rfl, q _ H3 (e2.trans fun b o hb => keep b o (ne_of_none hb na) (by rw [upd_ne (ne_of_none hb na)]; exact hb)) ⟨a, d, rfl, h1, h2⟩⟩⟩
/-! {t}, t a tuple of numbers -/
theorem repr_nums {prog : Program} {w : World} : ∀ {l : List Int} {its : List Value}, Vals (l.map V.int) its → (∀ i ∈ l, i.natAbs.log2 < 1920) → ReprAll prog w its (l.map fun i => Str.ofString (toString i))
  | [], _, r, _ => by
    cases r
    exact .nil
  | i :: l, _, r, h => by
    cases r with
    | cons r1 r2 =>
      obtain ⟨t, rfl⟩ := r1
      exact .cons (ReprIs.int t (h i List.mem_cons_self)) (repr_nums r2 fun z hz => h z (List.mem_cons_of_mem _ hz))
theorem piled_nums : ∀ l : List Int, (∀ i ∈ l, i.natAbs.log2 < 1920) → piled (l.map fun i => Str.ofString (toString i)) ≤ 2000 * l.length
  | [], _ => Nat.zero_le _
  | i :: l, h => by
    have h1 := int_text_len_1921 (h i List.mem_cons_self)
    have h2 := piled_nums l fun z hz => h z (List.mem_cons_of_mem _ hz)
    rw [List.map_cons, piled_cons, List.length_cons]
    omega
def tFmtN (K : PySem.W.Frag) (te : TE) : TE := fun σ H Q => te σ H fun x H1 => ∃ (a : Addr) (l : List Int), x = .ref a ∧ SqT K H1 a (l.map V.int) ∧ (∀ i ∈ l, i.natAbs.log2 < 1920) ∧ l.length ≤ 4 ∧ ∀ m : Str, m.length ≤ 10000 → Q (.str m) H1
theorem pe_fmtN {X : Cx} {e : Expr} {te : TE} {pos : Pos} {k : Nat} (hr : Room k X.A) (he : PE X e te) : PE X (.FormattedValue e (-1) none pos) (tFmtN X.K te) := by
  constructor
  intro pins s σ H Q I h
  refine wpAny_FormattedValue_plain (thn (he.run pins s σ H _ I h) fun v s1 got => ?_)
  obtain ⟨x, H1, I1, r1, a, l, ex, ht, hb, hl, q⟩ := got
  subst ex
  obtain rfl : v = Value.ref a := r1
  obtain ⟨its, rv, ⟨o, ho, hcl, n, hd⟩, _⟩ := I1.tuple ht
  have h1 := piled_nums l hb
  have h2 := fmt_text (l.map fun i => Str.ofString (toString i))
  have hu := hr.units
  refine fmt_tuple (ts := l.map fun i => Str.ofString (toString i)) (by omega) ho hcl hd (repr_nums rv hb) (Nat.le_trans (m := 10000) (by omega) (by decide)) fun m u tk hm => ⟨.str m, H1, I1.tok _, ⟨u, rfl⟩, q m (by omega)⟩
end Tk
namespace Tk
open PySem PySem.Spec PyProof.Rows L2 Evl
/-! an expression with two readings -/
def tOr2 (t1 t2 : TE) : TE := fun σ H Q => t1 σ H Q ∨ t2 σ H Q
theorem pe_or2 {X : Cx} {e : Expr} {t1 t2 : TE} (h1 : PE X e t1) (h2 : PE X e t2) : PE X e (tOr2 t1 t2) := ⟨fun pins s σ H Q I h => h.elim (h1.run pins s σ H Q I) (h2.run pins s σ H Q I)⟩
section
variable {t1 t2 : TE} {σ : L2.St} {H : Hp} {v : V} {W : V → Hp → Prop}
theorem ev_orL (h : Ev t1 σ H v) : Ev (tOr2 t1 t2) σ H v := fun H1 e Q q => .inl (h H1 e Q q)
theorem ev_orR (h : Ev t2 σ H v) : Ev (tOr2 t1 t2) σ H v := fun H1 e Q q => .inr (h H1 e Q q)
theorem evw_orL (h : EvW t1 σ H W) : EvW (tOr2 t1 t2) σ H W := fun H1 e Q q => .inl (h H1 e Q q)
theorem evw_orR (h : EvW t2 σ H W) : EvW (tOr2 t1 t2) σ H W := fun H1 e Q q => .inr (h H1 e Q q)
end
/-! defs that raise -/
structure CalX (P : Program) (w : World) (K : PySem.W.Frag) (mg : Str → Option Value) (base : Heap) (k : Nat) (x : Str) (sp : Sp) : Prop where
  ex : ∃ (f : Addr) (fd : FuncData) (ps : List Str), FnOk P w K mg base (L2.CX P w) k f fd ps sp ∧ mg x = some (.ref f) ∧ PySem.W.keepIn K (.ref f) = true ∧ Binds K fd ps []
structure MetX (P : Program) (w : World) (K : PySem.W.Frag) (mg : Str → Option Value) (base : Heap) (k : Nat) (C : Addr) (m : Str) (sp : Sp) : Prop where
  ex : ∃ (f : Addr) (fd : FuncData) (ps : List Str), Cls K C ∧ Meth K C m f ∧ FnOk P w K mg base (L2.CX P w) k f fd ps sp ∧ Binds K fd ps []
section
variable {P : Program} {w : World} {K : PySem.W.Frag} {mg : Str → Option Value} {base : Heap}
theorem fnX7 {x qual : Str} {st : Stmt} {f : Addr} {fd : FuncData} {N ps : List Str} {k : Nat} {sp : Sp} (F : C8.Fun K x qual st f fd) (S : FnScope N ps (C8.fnScope st)) (len : ∀ vs H Q E, sp vs H Q E → vs.length = ps.length)
    (hbody : ∀ (cdv : Value) (A : Around) (outer : List Env) (s : Shared) (H : Hp) (vs : List V) (Q : VK) (E : XK), Room k (A.deeper (envOfC qual (C8.fnScope st) s.heap.objs.size f cdv)) → sp vs H Q E →
      ∃ t, PSs (cxOf (L2.CX P w) P w K mg base N qual (C8.fnScope st) f cdv A outer s H E) (C8.fnBody st) t ∧ t { nx := fun _ H' => Q .non H', rt := Q } (start N vs) H) : FnOk P w K mg base (L2.CX P w) (k + 1) f fd ps sp := by
  obtain ⟨oc, od, dV, kV, doc, pm, an, cdv, ct, osl, rfl, lk, hcd⟩ := F.ex
  exact fn_of lk hcd S len fun A outer s H vs Q E hr hsp => hbody cdv A outer s H vs Q E hr hsp
theorem calX {x : Str} {st : Stmt} {f : Addr} {fd : FuncData} {N ps : List Str} {k : Nat} {sp : Sp} (F : C8.Def K mg x st f fd) (b : Binds K fd ps []) (S : FnScope N ps (C8.fnScope st)) (len : ∀ vs H Q E, sp vs H Q E → vs.length = ps.length)
    (hbody : ∀ (cdv : Value) (A : Around) (outer : List Env) (s : Shared) (H : Hp) (vs : List V) (Q : VK) (E : XK), Room k (A.deeper (envOfC x (C8.fnScope st) s.heap.objs.size f cdv)) → sp vs H Q E →
      ∃ t, PSs (cxOf (L2.CX P w) P w K mg base N x (C8.fnScope st) f cdv A outer s H E) (C8.fnBody st) t ∧ t { nx := fun _ H' => Q .non H', rt := Q } (start N vs) H) : CalX P w K mg base (k + 1) x sp :=
  ⟨f, fd, ps, fnX7 F.fn S len hbody, F.mgf, F.kp, b⟩
theorem metX {m qual : Str} {C : Addr} {st : Stmt} {f : Addr} {fd : FuncData} {N ps : List Str} {k : Nat} {sp : Sp} (c : Cls K C) (me : Meth K C m f) (F : C8.Fun K m qual st f fd) (b : Binds K fd ps []) (S : FnScope N ps (C8.fnScope st)) (len : ∀ vs H Q E, sp vs H Q E → vs.length = ps.length)
    (hbody : ∀ (cdv : Value) (A : Around) (outer : List Env) (s : Shared) (H : Hp) (vs : List V) (Q : VK) (E : XK), Room k (A.deeper (envOfC qual (C8.fnScope st) s.heap.objs.size f cdv)) → sp vs H Q E →
      ∃ t, PSs (cxOf (L2.CX P w) P w K mg base N qual (C8.fnScope st) f cdv A outer s H E) (C8.fnBody st) t ∧ t { nx := fun _ H' => Q .non H', rt := Q } (start N vs) H) : MetX P w K mg base (k + 1) C m sp :=
  ⟨f, fd, ps, c, me, fnX7 F S len hbody, b⟩
end
section
variable {X : Cx} {k j : Nat} {sp : Sp} {E : XK} {W : WX} {C : Addr} {x m : Str} {p pos apos : Pos} {e o : Expr} {es : List Expr} {ta : TE} {t : TA}
theorem pe_cX (c : CalX X.prog X.w X.K X.mg X.base k x sp) (hx : Passes (L2.CX X.prog X.w) X E) (hr : Room j X.A) (hk : k ≤ j) (hg : Gl X x) (ha : PA X (e :: es) t)
    (hdb : (x == ("__debug__" : Str)) = false := by decide) (he : starEach (e :: es) X.env = (false, eval e X.env) :: starEach es X.env := by rfl) (hpl : (backTo pos (starEach es X.env)).any (·.1) = false := by rfl) :
    PE X (.Call (.Name x p) (e :: es) [] pos) (tCall sp [] E t) := by
  obtain ⟨f, fd, ps, F, hm, kp, b⟩ := c.ex
  exact pe_call F (hr.mono hk) hg hm kp b .nil hx ha hdb he hpl
/-- in a try -/
theorem pe_cT (c : CalX X.prog X.w X.K X.mg X.base k x sp) (tk : Takes X W) (hr : Room j X.A) (hk : k ≤ j) (hg : Gl X x) (ha : PA X (e :: es) t)
    (hdb : (x == ("__debug__" : Str)) = false := by decide) (he : starEach (e :: es) X.env = (false, eval e X.env) :: starEach es X.env := by rfl) (hpl : (backTo pos (starEach es X.env)).any (·.1) = false := by rfl) :
    PE X (.Call (.Name x p) (e :: es) [] pos) (tCallS sp (WE W) t) := by
  obtain ⟨f, fd, ps, F, hm, kp, b⟩ := c.ex
  exact pe_callS F (hr.mono hk) hg hm kp b (fun σ => passAt tk σ) ha hdb he hpl
theorem own_takes {K : PySem.W.Frag} {mg : Str → Option Value} {base : Heap} {P : Program} {w : World} {N : List Str} {qual : Str} {sc : Scope} {f : Addr} {cdv : Value} {A : Around} {outer : List Env} {s : Shared} {H : Hp} {E : XK} : Passes (L2.CX P w) (cxOf (L2.CX P w) P w K mg base N qual sc f cdv A outer s H E) E :=
  passes_call (takes_of rfl rfl rfl rfl) fun _ _ _ _ h => h
end
/-! an exception that was caught, kept as a value -/
def ExK (cls : Value) (d : Option Addr) (a : Addr) : HO := .ext fun h => ∃ (oe : Obj) (vs : Array Value), h.get? a = some oe ∧ Zc cls d oe ∧ oe.data = .fields vs
theorem exK_ok {P : Program} {w : World} {H : Hp} {h : Heap} {a : Addr} {cls : Value} {d : Option Addr} {oe : Obj} {vs : Array Value} (e : h.get? a = some oe) (z : Zc cls d oe) (hd : oe.data = .fields vs) : ObjOk P w H h a (ExK cls d a) :=
  ⟨⟨oe, vs, e, z, hd⟩, ⟨oe, e⟩, fun _ _ ⟨o, v, q, r⟩ k => ⟨o, v, k o q, r⟩⟩
theorem exK_at {P : Program} {w : World} {H : Hp} {h : Heap} {a : Addr} {cls : Value} {d : Option Addr} (ok : HOk P w H h) (e : H a = some (ExK cls d a)) : ∃ (oe : Obj) (vs : Array Value), h.get? a = some oe ∧ Zc cls d oe ∧ oe.data = .fields vs := by
  have x : ObjOk P w H h a (.ext fun h => ∃ (oe : Obj) (vs : Array Value), h.get? a = some oe ∧ Zc cls d oe ∧ oe.data = .fields vs) := ok a _ e
  exact x.1
section
variable {X : Cx} {pins : List (Addr × Obj)} {σ : L2.St} {H : Hp} {sI s' : Shared} {B h4 : Heap} {a : Addr} {cls : Value} {d : Option Addr}
theorem landedK (J : Inv X pins σ H sI) (nb : ∀ b o, sI.heap.get? b = some o → b ∉ frs X.stack → B.get? b = some o) {l : List Env} (fl : HandSPX.FlyingZ B l a (Zc cls d) h4) (up : sI.heap.UpToSlots h4) (os : s'.os = sI.os) (ag : AllBare s'.gens) (na : H a = none) (nfr : a ∉ frs X.stack) :
    Inv X pins σ (upd H a (ExK cls d a)) { s' with heap := h4 } := by
  obtain ⟨oe, vs, he, hz, hd⟩ := fl.there
  have hB : B.get? a = none := fl.2.1
  have st : B.StaysIn h4 := fl.1
  have hsI : sI.heap.get? a = none := by
    cases e : sI.heap.get? a with
    | none => rfl
    | some o =>
      have z := nb a o e nfr
      rw [hB] at z
      cases z
  obtain ⟨G, g1, g2⟩ := L2.restrict h4 fun b => decide (b ≠ a)
  have gk : ∀ b o, b ≠ a → h4.get? b = some o → G.get? b = some o := fun b o hb e => by
    rw [g1 b (decide_eq_true hb)]
    exact e
  have ga : G.get? a = none := g2 a (decide_eq_false fun z => z rfl)
  have gs : ∀ b o, G.get? b = some o → h4.get? b = some o := fun b o e => by
    by_cases hb : b = a
    · rw [hb, ga] at e
      cases e
    · rw [← g1 b (decide_eq_true hb)]
      exact e
  have J3 : Inv X pins σ H { s' with heap := G } := J.landed (s' := { s' with heap := G }) nb (fun b o e => gk b o (fun z => by
    rw [z, hB] at e
    cases e) (st b o e)) (fun b o e nd => by
      obtain ⟨sl, q⟩ := up b o e nd
      exact ⟨sl, gk b _ (fun z => by
        rw [z, hsI] at e
        cases e) q⟩) os ag
  exact J3.laidN (h' := h4) (t' := s'.toks) gs ga na (exK_ok he hz hd)
theorem Inv.suiteK {X : Cx} {pins : List (Addr × Obj)} {σ : L2.St} {H : Hp} {s : Shared} (I : Inv X pins σ H s) (a : Addr) : Inv (X.suite a (X.pn ++ pins)) [] σ H s :=
  ⟨I.ok.suite _ _, I.os, I.bare, I.base, I.loc, I.cell, I.free, I.freeC, fun p hp => I.pin p (by rw [List.append_nil] at hp; exact hp), I.hok, I.len⟩
theorem Inv.unsuiteK {X : Cx} {pins pn' : List (Addr × Obj)} {σ : L2.St} {H : Hp} {s : Shared} {a : Addr} (I : Inv (X.suite a (X.pn ++ pins)) pn' σ H s) (ok : X.Ok) : Inv X pins σ H s :=
  ⟨ok, I.os, I.bare, I.base, I.loc, I.cell, I.free, I.freeC, fun p hp => I.pin p (List.mem_append_left _ hp), I.hok, I.len⟩
end
/-- what the clause 'except x as n: ..' that keeps it wishes of an exception of the body: slot i is n's -/
def wKeep (K : PySem.W.Frag) (c : Value) (i : Nat) (ts : TS) (Wout : WX) (D : Ends) : WX := fun cls d σ H =>
  ∃ b, PySem.W.exmOne K cls c = some b ∧ (b = true → ∀ a, H a = none → ts { nx := fun σ' H' => D.nx (σ'.set i none) H', rt := D.rt, bk := fun σ' H' => D.bk (σ'.set i none) H', ct := fun σ' H' => D.ct (σ'.set i none) H' } (σ.set i (some (.ref a))) (upd H a (ExK cls d a))) ∧
    (b = false → Wout cls d σ H)
section
variable {X : Cx} {x n : Str} {c : Value} {i : Nat} {body suite : List Stmt} {b₀ : Stmt} {np pos pos' : Pos} {tb : WX → TS} {ts : TS} {Wout : WX}
theorem ps_try_keep (hs : X.stack = X.env :: X.outer) (hf : X.env.frame = some X.env.locals) (hN : X.N.Nodup) (hi : X.N[i]? = some n) (hln : X.env.kindOf n = some .local) (hc : Names X x c) (tk : Takes X Wout)
    (hb : ∀ (W : WX) (pn : List (Addr × Obj)) (xe : Value → Shared → Prop), Takes (X.tr pn xe) W → PassesOwn (model X.prog X.w) X.A X.env xe → PSs (X.tr pn xe) body (tb W))
    (hsu : ∀ (a : Addr) (pn : List (Addr × Obj)), PSs (X.suite a pn) (b₀ :: suite) ts) :
    PS X (.Try body [.ExceptHandler (some (.Name x np)) (some n) (b₀ :: suite) pos'] [] [] pos) (fun D σ H => tb (wKeep X.K c i ts Wout D) D σ H) := by
  refine ⟨fun pins s σ H D I h => ?_⟩
  have ok := I.ok
  have hfr : X.A.frames = some (X.env :: X.outer) := by rw [ok.frames, hs]
  have hloc : Loc X.env.scope n := .inl hln
  refine wpAny_Try_except ?_
  refine wpAny_mono ((hb (wKeep X.K c i ts Wout D) (X.pn ++ pins) (fun e s₁ => wpAny (model X.prog X.w) X.A (noteFrame e X.env) (fun _ s₂ => wpAny (model X.prog X.w) X.A (setFlight e none) (fun _ s₃ =>
    wpAny (model X.prog X.w) X.A (handleBy e X.env [.ExceptHandler (some (.Name x np)) (some n) (b₀ :: suite) pos']) (SP X pins D) X.xe s₃) X.xe s₂) X.xe s₁) (fun u s' xx => ?_) PassesOwn.looking).run [] s σ H D (I.toTry _) h) (fun f s1 hsp => ?_) (fun e s1 he => he)
  · obtain ⟨a, B, sI, pins', σ', H', cls, d, rfl, J', nb, up, sky, na, os, ag, b, hb1, hyes, hno⟩ := xx
    have J : Inv X pins σ' H' sI := J'.ofTry ok
    have sky' : Sky B (X.env :: X.outer) a (Zc cls d) X.env.locals s'.heap := by rw [← hs]; exact sky
    show wpAny (model X.prog X.w) X.A (noteFrame (.ref a) X.env) _ _ _
    refine Sky.land Zc.steady hfr hf sky' fun h3 fl3 up3 => ?_
    have J3 : Inv X pins σ' H' { s' with heap := h3 } := J.landed nb fl3.1 (up.trans up3) os ag
    obtain ⟨oe3, vs3, he3, hz3, hd3⟩ := fl3.there
    have notFr : ∀ {h : Heap} {o : Obj} {vs : Array Value}, h.FunFrames B (X.env :: X.outer) → h.get? a = some o → o.data = .fields vs → a ∉ frs (X.env :: X.outer) := fun {h o vs} ff e dd hm => by
      obtain ⟨_, o', e', hnf⟩ := ff.mem hm
      rw [e] at e'; cases e'
      exact hnf _ dd
    have nfr := notFr fl3.2.2.1 he3 hd3
    have nL : a ≠ X.env.locals := fun z => nfr (List.mem_filterMap.mpr ⟨X.env, List.mem_cons_self, by rw [hf, z]⟩)
    have nF : a ∉ X.fs := fun hm => by
      obtain ⟨e, he, q⟩ := List.mem_filterMap.mp hm
      exact nfr (List.mem_filterMap.mpr ⟨e, List.mem_cons_of_mem _ he, q⟩)
    have nfs : a ∉ frs X.stack := by rw [hs]; exact nfr
    have S3 := J3.suite he3 hd3 na nL nF
    refine wpAny_handleBy_cons (codeAny_handlers_test ?_) (by intro q; cases q)
    have LT : PySem.W.Looks (model X.prog X.w) h3 (typeOf (.ref a)) cls := fun A Q E s k q => wpAny_typeOf_ref (k _ _ he3) (by rw [hz3.1]; exact q)
    have LM := PySem.W.exm_one (M := model X.prog X.w) (J3.kIn) LT hb1
    have test : ∀ {Q : Value → Shared → Prop} {E : Value → Shared → Prop}, Q c { s' with heap := h3 } → wpAny (model X.prog X.w) (X.A.mark (some (.ref a))) (eval (.Name x np) X.env) Q E { s' with heap := h3 } := fun {Q E} q => by
      obtain ⟨hg, hdbg, hm | ⟨hm, hv, hnn⟩⟩ := hc
      · exact ld_glob (X := X.suite a ((a, oe3) :: (X.pn ++ pins))) S3 hg hm q hdbg
      · exact ld_blt (X := X.suite a ((a, oe3) :: (X.pn ++ pins))) S3 hg hm hv q hnn hdbg
    refine test (LM.here ?_)
    cases b with
    | true =>
      refine codeAny_handlers_suite_as ?_
      refine HandSPX.lands_againZ fl3 fun h4 fl4 up4 => ?_
      have J4 : Inv X pins σ' (upd H' a (ExK cls d a)) { s' with heap := h4 } := landedK J nb fl4 ((up.trans up3).trans up4) os ag na nfs
      have S4 := Inv.suiteK J4 a
      refine store_ok (X := X.suite a (X.pn ++ pins)) (v := .ref a) S4 hN hi hloc rfl (fun s5 S5 => ?_) (.inr hln)
      refine wpAny_mono ((hsu a (X.pn ++ pins)).run [] s5 _ _ _ S5 (hyes rfl a na)) (fun f s6 hsp => ?_) (fun _ _ z => False.elim z)
      have end_ : ∀ {σ6 : L2.St} {H6 : Hp} {Q : Shared → Prop}, Inv (X.suite a (X.pn ++ pins)) [] σ6 H6 s6 → (∀ s7, Inv X pins (σ6.set i none) H6 s7 → Q s7) →
          wpAny (model X.prog X.w) X.A (do bindName X.env n .none; unbindBehindTheSuite X.env n pos') (fun _ s7 => Q s7) X.xe s6 := fun {σ6 H6 Q} S6 hq => gone_ok (Inv.unsuiteK S6 ok) hN hi hln hq
      cases f with
      | next =>
        obtain ⟨σ6, H6, S6, q6⟩ := hsp
        exact end_ S6 fun s7 J7 => ⟨_, _, J7, q6⟩
      | brk =>
        obtain ⟨σ6, H6, S6, q6⟩ := hsp
        exact end_ S6 fun s7 J7 => ⟨_, _, J7, q6⟩
      | cont =>
        obtain ⟨σ6, H6, S6, q6⟩ := hsp
        exact end_ S6 fun s7 J7 => ⟨_, _, J7, q6⟩
      | ret u =>
        obtain ⟨v6, σ6, H6, S6, r6, q6⟩ := hsp
        exact end_ S6 fun s7 J7 => ⟨_, _, _, J7, r6, q6⟩
    | false =>
      show wpAny _ X.A (handleBy (.ref a) X.env []) _ _ _
      refine wpAny_handleBy_nil ?_
      obtain ⟨k1, k2, k3, oe, vs, T, oT, ts', he, hz, hd, h1, hr⟩ := id fl3
      unfold PySem.passOn
      refine wpAny_bind (wpAny_field he hd h1 ?_)
      rw [if_neg (show ¬ ((Value.ref T == Value.none) = true) from by simp)]
      have fin : wpAny (model X.prog X.w) X.A (setFlight (.ref a) X.env.frame) (fun _ s4 => wpAny (model X.prog X.w) X.A (throw (.ref a) : Sem Flow) (SP X pins D) X.xe s4) X.xe { s' with heap := h3 } := by
        rw [hf]
        refine HandSPX.setFlight_upZ fl3 fun h4 hh4 up4 => wpAny_throw (tk _ _ ?_)
        exact ⟨a, B, sI, pins, σ', H', cls, d, rfl, J, nb, (up.trans up3).trans up4, .inr (.inr (by rw [hs]; exact hh4)), na, os, ag, hno rfl⟩
      first
        | exact wpAny_bind (wpAny_pure (wpAny_bind fin))
        | exact wpAny_bind fin
  · cases f with
    | next =>
      obtain ⟨σ', H', J', q⟩ := hsp
      exact wpAny_execs_nil ⟨σ', H', J'.ofTry ok, q⟩
    | brk =>
      obtain ⟨σ', H', J', q⟩ := hsp
      exact ⟨σ', H', J'.ofTry ok, q⟩
    | cont =>
      obtain ⟨σ', H', J', q⟩ := hsp
      exact ⟨σ', H', J'.ofTry ok, q⟩
    | ret u =>
      obtain ⟨v, σ', H', J', r, q⟩ := hsp
      exact ⟨v, σ', H', J'.ofTry ok, r, q⟩
end
/-- a caught exception of the class D, as it stands: without fields, or with these -/
def KEx (H : Hp) (a D : Addr) (fs : Option (List (Str × V))) : Prop := match fs with
  | none => H a = some (ExK (.ref D) none a)
  | some fs => ∃ d, H a = some (ExK (.ref D) (some d) a) ∧ H d = some (.xd fs)
theorem KEx.mono {H H' : Hp} {a D : Addr} {fs : Option (List (Str × V))} (e : Ex H H') (h : KEx H a D fs) : KEx H' a D fs := by
  cases fs with
  | none => exact e _ _ h
  | some fs =>
    obtain ⟨d, h1, h2⟩ := h
    exact ⟨d, e _ _ h1, e _ _ h2⟩
theorem KEx.inst {P : Program} {w : World} {H : Hp} {h : Heap} {a D : Addr} {fs : Option (List (Str × V))} (ok : HOk P w H h) (z : KEx H a D fs) : ∃ ox od, PySem.W.InstAt h a ox D od := by
  cases fs with
  | none =>
    obtain ⟨oe, vs, g, hz, hd⟩ := exK_at ok z
    exact ⟨oe, none, ⟨g, hz.1, by unfold PySem.W.notCls; rw [hd] <;> rfl, by rw [hz.2] <;> trivial⟩⟩
  | some fs =>
    obtain ⟨d, h1, h2⟩ := z
    obtain ⟨oe, vs, g, hz, hd⟩ := exK_at ok h1
    have hx : ObjOk P w H h d (.xd fs) := ok d _ h2
    obtain ⟨mA, ⟨o, es, ep, ho, _⟩, _⟩ := hx
    exact ⟨oe, some o, ⟨g, hz.1, by unfold PySem.W.notCls; rw [hd] <;> rfl, by rw [hz.2]; exact ho⟩⟩
/-- isinstance(e, c) -/
def rIsK (K : PySem.W.Frag) : List V → Hp → VK → Prop := fun xs H Q => ∃ (a D : Addr) (fs : Option (List (Str × V))) (c : V) (cv : Value) (b : Bool), xs = [.ref a, c] ∧ ExcC K D ∧ KEx H a D fs ∧ ClsV c cv ∧ PySem.W.kitOne K (.ref D) cv = some b ∧ Q (.bl b) H
theorem call_isK {X : Cx} : CallR X (.builtin "isinstance") (rIsK X.K) := by
  intro pins s σ H xs us Q I r h
  obtain ⟨a, D, fs, c, cv, b, rfl, C, hx, hc, hk, q⟩ := h
  obtain ⟨u, u2, rfl, ru, ru2⟩ := vals2 r
  obtain rfl : u = Value.ref a := ru
  obtain rfl := hc.eq ru2
  obtain ⟨ox, od, J⟩ := hx.inst I.hok
  obtain ⟨cd, hcd, _⟩ := PySem.W.any_some C.hd
  exact PySem.W.kia_one (PySem.W.kitx_exc (by rw [hcd]; rfl) C.hg C.hk C.hs C.ha C.hn C.ht C.hm) I.kIn J hk (fun z => nomatch z) fun tk => ⟨.bl b, H, I.kept (t' := tk) fun _ _ z => z, rfl, q⟩
theorem ev_isK {K : PySem.W.Frag} {σ : L2.St} {H : Hp} {ta tb : TE} {a D : Addr} {fs : Option (List (Str × V))} {c : V} {cv : Value} {b : Bool} (ha : Ev ta σ H (.ref a)) (hb : Ev tb σ H c) (C : ExcC K D) (hx : KEx H a D fs) (hc : ClsV c cv) (hk : PySem.W.kitOne K (.ref D) cv = some b) : Ev (tCB (rIsK K) (tCons ta (tCons tb tNil))) σ H (.bl b) := fun H1 e Q q =>
  ha H1 e _ fun H2 e2 => hb H2 (e.trans e2) _ fun H3 e3 => ⟨a, D, fs, c, cv, b, rfl, C, hx.mono ((e.trans e2).trans e3), hc, hk, q H3 (e2.trans e3)⟩
/-- e.f -/
def tXk (K : PySem.W.Frag) (f : Str) (te : TE) : TE := fun σ H Q => te σ H fun x H1 => ∃ (a C : Addr) (fs : List (Str × V)) (v : V), x = .ref a ∧ ExcC K C ∧ PySem.W.findIn K (.ref C) f = some none ∧ KEx H1 a C (some fs) ∧ fs.lookup f = some v ∧ Q v H1
theorem pe_xk {X : Cx} {e : Expr} {te : TE} {pos : Pos} {f : Str} (he : PE X e te) (hb : attributeBase e f X.env (eval e X.env) = eval e X.env := by rfl) : PE X (.Attribute e f pos) (tXk X.K f te) := by
  constructor
  intro pins s σ H Q I h
  refine attr_of hb (thn (he.run pins s σ H _ I h) fun u s1 got => ?_)
  obtain ⟨x, H1, I1, rx, a, C, fs, v, ex, T, no, ⟨d, ha, hdd⟩, hl, q⟩ := got
  subst ex
  obtain rfl : u = Value.ref a := rx
  obtain ⟨oe, vs, g, hz, hd⟩ := exK_at I1.hok ha
  have hx : ObjOk X.prog X.w H1 s1.heap d (.xd fs) := I1.hok d _ hdd
  obtain ⟨mA, hns, hr⟩ := hx
  obtain ⟨od, ho, hlk⟩ := lookIn_ns hns
  obtain ⟨u, hu, ru⟩ := RelO.some_of (v := v) (o := mA f) (by rw [← hl]; exact hr f)
  have J : PySem.W.InstAt s1.heap a oe C (some od) := ⟨g, hz.1, by unfold PySem.W.notCls; rw [hd] <;> rfl, by rw [hz.2]; exact ho⟩
  exact HandSPX.exc_get I1.kIn J T.hg T.hk T.hs (PySem.W.findObj_own T.hd no rfl (by rw [hlk, hu])) (handed_of ru) ⟨v, H1, I1.tok _, ru, q⟩
theorem ev_xk {K : PySem.W.Frag} {σ : L2.St} {H : Hp} {te : TE} {a C : Addr} {fs : List (Str × V)} {v : V} {f : Str} (h : Ev te σ H (.ref a)) (T : ExcC K C) (no : PySem.W.findIn K (.ref C) f = some none) (hx : KEx H a C (some fs)) (hl : fs.lookup f = some v) : Ev (tXk K f te) σ H v := fun H1 e Q q =>
  h H1 e _ fun H2 e2 => ⟨a, C, fs, v, rfl, T, no, hx.mono (e.trans e2), hl, q H2 e2⟩
end Tk
namespace Tk
open PySem PySem.Spec PyProof.Rows L2 Evl
/-! [..].count(True) -/
def eqb (k : Bool) : Value → Bool
  | .bool b => b == k
  | _ => false
theorem vals_bools : ∀ {bs : List Bool} {us : List Value}, Vals (bs.map V.bl) us → us = bs.map Value.bool
  | [], _, .nil => rfl
  | b :: bs, _, .cons r h => by
    rw [vals_bools h]
    rw [show _ = Value.bool b from r]
    rfl
theorem count_bools (k : Bool) : ∀ bs : List Bool, (bs.map Value.bool).countP (eqb k) = bs.count k
  | [] => rfl
  | b :: bs => by
    rw [List.map_cons, List.countP_cons, List.count_cons, count_bools k bs]
    rfl
def rCntB (K : PySem.W.Frag) : V → List V → Hp → VK → Prop := fun x xs H Q => ∃ (p : Addr) (bs : List Bool) (k : Bool), x = .ref p ∧ xs = [.bl k] ∧ SqL K H p (bs.map V.bl) ∧ Q (.int (bs.count k : Nat)) H
theorem mt_countB {X : Cx} : MtR X "list.count" (rCntB X.K) := by
  intro pins s σ H x xs v us Q I rx rxs h
  obtain ⟨p, bs, k, rfl, rfl, hs, q⟩ := h
  cases rx
  obtain ⟨u, rfl, ru⟩ := rxs.one
  obtain rfl : u = Value.bool k := ru
  obtain ⟨its, rv, ⟨⟨cls, dd, data, sl⟩, n, ho, hc, hdn, hd⟩, hlen⟩ := I.list hs
  simp only at hc hd
  subst hc hd
  have hi := vals_bools rv
  subst hi
  refine call_meets PySem.F.slot_list_count ⟨_, ho, rfl⟩ PySem.F.entry_list_count (PySem.F.args_list_count_2 _ _)
    (SeqAt.list_countAt p (bs.map Value.bool).toArray n dd sl (.bool k) (eqb k)) ⟨ho, fun y hy => ?_, ?_⟩
  · obtain ⟨b, _, rfl⟩ := List.mem_map.mp (show y ∈ bs.map Value.bool by simpa using hy)
    exact PySem.SeqAt.EqAt.bool_bool b k
  · have ec : (bs.map Value.bool).toArray.toList.countP (eqb k) = bs.count k := count_bools k bs
    refine ⟨.int (bs.count k : Nat), H, I.tok _, ⟨s.toks, ?_⟩, q⟩
    show Value.int (((bs.map Value.bool).toArray.toList.countP (eqb k) : Nat) : Int) s.toks = Value.int ((bs.count k : Nat) : Int) s.toks
    rw [ec]
end Tk
namespace Tk
open PySem PySem.Spec PyProof.Rows L2 Evl
/-! a walked thing with two readings -/
def iOr2 (w1 w2 : TI) : TI := fun σ H R => w1 σ H R ∨ w2 σ H R
theorem pi_or2 {X : Cx} {tg iter : Expr} {w1 w2 : TI} (h1 : PI X tg iter w1) (h2 : PI X tg iter w2) : PI X tg iter (iOr2 w1 w2) := ⟨fun pins s σ H R I h => h.elim (h1.run pins s σ H R I) (h2.run pins s σ H R I)⟩
theorem evw_makeF {σ : L2.St} {H : Hp} {C : Addr} {E : XK} {Dm : List V → Prop} {J : List V → Addr → Addr → Hp → Hp → Prop} {tA : TA} {vs : List V} (h : EvA tA σ H vs) (hd : Dm vs) :
    EvW (tMake C (fun vs H Q _ => ∃ (x dx : Addr) (as : List V), vs = .ref x :: as ∧ H x = some (.ins C dx []) ∧ Dm as ∧ ∀ H2, (∀ b o, b ≠ x → H b = some o → H2 b = some o) → J as x dx H H2 → Q .non H2) [] E tA) σ H (fun v H2 => ∃ x dx H1, v = .ref x ∧ H x = none ∧ Ex H H1 ∧ J vs x dx H1 H2) := fun H1 e Q q =>
  h H1 e _ fun H2 e2 => fun x dx nx nd ne => by
    rw [List.append_nil]
    refine ⟨x, dx, vs, rfl, upd_same, hd, fun H3 k w => ⟨rfl, q _ H3 (e2.trans fun b o hb => ?_) ⟨x, dx, _, rfl, fresh_back (e.trans e2) nx, (e.trans e2).trans fun b o hb => ?_, w⟩⟩⟩
    · have n1 : b ≠ x := ne_of_none hb nx
      refine k b o n1 ?_
      rw [upd_ne n1, upd_ne (ne_of_none hb nd)]
      exact hb
    · rw [upd_ne (ne_of_none hb nx), upd_ne (ne_of_none hb nd)]
      exact hb
/-- what an __init__ promises, told at the heap ahead of it, too -/
abbrev spIH (C : Addr) (Dm : List V → Prop) (J : List V → Addr → Addr → Hp → Hp → Prop) : Sp := fun vs H Q _ => ∃ (x dx : Addr) (as : List V), vs = .ref x :: as ∧ H x = some (.ins C dx []) ∧ Dm as ∧ ∀ H2, (∀ b o, b ≠ x → H b = some o → H2 b = some o) → J as x dx H H2 → Q .non H2
end Tk
namespace Tk
open PySem PySem.Spec PyProof.Rows L2 Evl
/-- a def that raises, called where it does not -/
theorem passF {X : Cx} : Passes (L2.CX X.prog X.w) X (fun _ _ _ => False) := fun _ _ _ _ _ _ _ c => by
  obtain ⟨_, _, _, _, _, _, _, _, _, _, _, _, z⟩ := c
  exact z.elim
section
variable {K : PySem.W.Frag} {σ : L2.St} {H : Hp} {te ta tb : TE} {tr : TA} {W : V → Hp → Prop} {Q : List V → Hp → Prop} {Qv : VK} {p : Addr}
theorem tcons_go (h : EvW te σ H W) (k : ∀ v H1, Ex H H1 → W v H1 → tr σ H1 fun xs H2 => Q (v :: xs) H2) : tCons te tr σ H Q := h H (Ex.refl H) _ k
theorem tcons_v {v : V} (h : Ev te σ H v) (k : ∀ H1, Ex H H1 → tr σ H1 fun xs H2 => Q (v :: xs) H2) : tCons te tr σ H Q := h H (Ex.refl H) _ k
theorem tcons_L {xs : List V} (h : EvL te σ H xs) (k : ∀ p H1, H p = none → Ex H H1 → H1 p = some (.lst xs) → tr σ H1 fun ys H2 => Q (.ref p :: ys) H2) : tCons te tr σ H Q := h H (Ex.refl H) _ k
theorem evw_lst {xs : List V} (h : EvL te σ H xs) : EvW te σ H (fun v H1 => ∃ p, v = .ref p ∧ H1 p = some (.lst xs)) := fun H1 e Q q => h H1 e _ fun p H2 _ e2 hp => q _ H2 e2 ⟨p, rfl, hp⟩
theorem ev_cntB {bs : List Bool} {k : Bool} (ha : Ev ta σ H (.ref p)) (hx : SqL K H p (bs.map V.bl)) (hb : Ev tb σ H (.bl k)) : Ev (tBM K "list" (rCntB K) ta (tCons tb tNil)) σ H (.int (bs.count k : Nat)) := fun H1 e Q q =>
  ha H1 e _ fun H2 e2 => ⟨.inl ⟨rfl, _, ex_l (e.trans e2) hx⟩, hb H2 (e.trans e2) _ fun H3 e3 => ⟨p, bs, k, rfl, rfl, ex_l ((e.trans e2).trans e3) hx, q H3 (e2.trans e3)⟩⟩
theorem ev_idx {ys : List V} {y z : V} {j : Nat} (ha : Ev ta σ H (.ref p)) (hx : SqL K H p ys) (hb : Ev tb σ H y) (f1 : flatV y = true) (f2 : ys.all flatV = true) (hz : ys[j]? = some z) (he : eqV z y = true) (hn : ∀ (m : Nat) (z' : V), m < j → ys[m]? = some z' → eqV z' y = false) :
    Ev (tBM K "list" (rIndex K) ta (tCons tb tNil)) σ H (.int (j : Nat)) := fun H1 e Q q =>
  ha H1 e _ fun H2 e2 => ⟨.inl ⟨rfl, _, ex_l (e.trans e2) hx⟩, hb H2 (e.trans e2) _ fun H3 e3 => ⟨p, ys, y, j, z, rfl, rfl, ex_l ((e.trans e2).trans e3) hx, f1, f2, hz, he, hn, q H3 (e2.trans e3)⟩⟩
/-- xs + ys -/
theorem el_cat {xs ys : List V} {l b : Addr} (ha : Ev ta σ H (.ref l)) (hb : Ev tb σ H (.ref b)) (hx : H l = some (.lst xs)) (hy : H b = some (.lst ys)) (hn : xs.length + ys.length ≤ 100000) : EvL (tOp rCat ta tb) σ H (xs ++ ys) := fun H1 e Q q =>
  ha H1 e _ fun H2 e2 => hb H2 (e.trans e2) _ fun H3 e3 => ⟨l, b, xs, ys, rfl, rfl, ((e.trans e2).trans e3) _ _ hx, ((e.trans e2).trans e3) _ _ hy, sz_of hn, fun p hp => q p _ (fresh_back (e2.trans e3) hp) ((e2.trans e3).trans (Ex.new hp)) upd_same⟩
theorem el_catN {xs ys : List V} {l : Addr} (ha : Ev ta σ H (.ref l)) (hb : EvL tb σ H ys) (hx : H l = some (.lst xs)) (hn : xs.length + ys.length ≤ 100000) : EvL (tOp rCat ta tb) σ H (xs ++ ys) := fun H1 e Q q =>
  ha H1 e _ fun H2 e2 => hb H2 (e.trans e2) _ fun b H3 nb e3 hb3 => ⟨l, b, xs, ys, rfl, rfl, ((e.trans e2).trans e3) _ _ hx, hb3, sz_of hn, fun p hp => q p _ (fresh_back (e2.trans e3) hp) ((e2.trans e3).trans (Ex.new hp)) upd_same⟩
theorem el_catNN {xs ys : List V} (ha : EvL ta σ H xs) (hb : EvL tb σ H ys) (hn : xs.length + ys.length ≤ 100000) : EvL (tOp rCat ta tb) σ H (xs ++ ys) := fun H1 e Q q =>
  ha H1 e _ fun l H2 nl e2 hl => hb H2 (e.trans e2) _ fun b H3 nb e3 hb3 => ⟨l, b, xs, ys, rfl, rfl, e3 _ _ hl, hb3, sz_of hn, fun p hp => q p _ (fresh_back (e2.trans e3) hp) ((e2.trans e3).trans (Ex.new hp)) upd_same⟩
end
end Tk
namespace Tk
open PySem PySem.Spec PyProof.Rows L2 Evl
theorem lst_go {ta : TA} {i : Nat} {u : TS} {D : Ends} {σ : L2.St} {H : Hp} (h : ta σ H fun xs H1 => xs.length ≤ sizeLine ∧ ∀ p, H1 p = none → u D (σ.set i (some (.ref p))) (upd H1 p (.lst xs))) : tSeq (tAsg (tLst ta) (gName i)) u D σ H := h
theorem rt_seqL {te : TE} {u : TS} {σ : L2.St} {H : Hp} {xs : List V} {v : V} {i : Nat} (h : EvL te σ H xs) (k : ∀ p H1, Ex H H1 → H1 p = some (.lst xs) → Rt u (σ.set i (some (.ref p))) H1 v) : Rt (tSeq (tAsg te (gName i)) u) σ H v := fun H1 e D q =>
  h H1 e _ fun p H2 np e2 hp => k p H2 (e.trans e2) hp H2 (Ex.refl H2) D fun H3 e3 => q H3 (e2.trans e3)
end Tk
namespace Tk
open PySem PySem.Spec PyProof.Rows L2 Evl
theorem EvW.mono {te : TE} {σ : L2.St} {H H' : Hp} {W : V → Hp → Prop} (e : Ex H H') (h : EvW te σ H W) : EvW te σ H' W := fun H1 a Q q => h H1 (e.trans a) Q q
theorem EvW.imp {te : TE} {σ : L2.St} {H : Hp} {W W' : V → Hp → Prop} (h : EvW te σ H W) (k : ∀ v H1, Ex H H1 → W v H1 → W' v H1) : EvW te σ H W' := fun H1 e Q q => h H1 e Q fun v H2 e2 w => q v H2 e2 (k v H2 (e.trans e2) w)
theorem EvW.go {te : TE} {σ : L2.St} {H : Hp} {W : V → Hp → Prop} {i : Nat} {u : TS} {D : Ends} (h : EvW te σ H W) (k : ∀ v H1, Ex H H1 → W v H1 → u D (σ.set i (some v)) H1) : tSeq (tAsg te (gName i)) u D σ H := h H (Ex.refl H) _ k
theorem q_mid {t u : TS} {D : Ends} {σ : L2.St} {H : Hp} (M : L2.St → Hp → Prop) (k : ∀ σ' H', M σ' H' → u D σ' H') (h : (∀ σ' H', M σ' H' → u D σ' H') → t { D with nx := u D } σ H) : tSeq t u D σ H := h k
theorem lstE_go {ta : TA} {σ : L2.St} {H : Hp} {Q : VK} (h : ta σ H fun xs H1 => xs.length ≤ sizeLine ∧ ∀ p, H1 p = none → Q (.ref p) (upd H1 p (.lst xs))) : tLst ta σ H Q := h
theorem el_rep {σ : L2.St} {H : Hp} {ta tb : TE} {xs : List V} {k : Int} (ha : EvL ta σ H xs) (hb : ∀ H1, Ex H H1 → Ev tb σ H1 (.int k)) (hk : 0 ≤ k ∧ k < 1000) (hn : xs.length * k.toNat ≤ 100000) : EvL (tOp rRep ta tb) σ H (List.replicate k.toNat xs).flatten := fun H1 e Q q =>
  ha H1 e _ fun l H2 nl e2 hl => hb H2 (e.trans e2) H2 (Ex.refl _) _ fun H3 e3 => ⟨l, k, xs, rfl, rfl, e3 _ _ hl, by omega, by omega, sz_of hn, fun p hp => q p _ (fresh_back (e2.trans e3) hp) ((e2.trans e3).trans (Ex.new hp)) upd_same⟩
theorem yesT8 {σ : L2.St} {H : Hp} {A B : Hp → Prop} (h : A H) : tYes σ H fun b H3 => if b = true then A H3 else B H3 := by
  show if true = true then A H else B H
  rw [if_pos rfl]
  exact h
/-- [e for x in ..], its items by what holds of them: of no list -/
theorem evw_lcP {wi : TI} {te : TE} {σ : L2.St} {H : Hp} {items : Nat → V} {n j : Nat} {vs : List Nat} (P : Nat → V → Hp → Prop) (mono : ∀ i v H1 H2, Ex H1 H2 → P i v H1 → P i v H2) (nolst : ∀ i v H1 D xs ys, H1 D = some (.lst xs) → P i v H1 → P i v (upd H1 D (.lst ys)))
    (h : EvI wi σ H items n) (hn : n ≤ 40000) (hw : ∀ x, wipe ((wipe σ vs).set j (some x)) vs = wipe σ vs) (he : ∀ i H1, Ex H H1 → i < n → EvW te ((wipe σ vs).set j (some (items i))) H1 (P i)) :
    EvW (tLc wi (gName j) tYes te vs) σ H (fun v H2 => ∃ l xs, v = .ref l ∧ H2 l = some (.lst xs) ∧ xs.length = n ∧ ∀ i x, xs[i]? = some x → P i x H2) := fun H0 e0 Q q =>
  h H0 e0 _ fun J H1 e1 G => fun D nD => by
    refine ⟨fun i m H' => m = n - i ∧ i ≤ n ∧ Ex H1 H' ∧ ∃ xs : List V, H' D = some (.lst xs) ∧ xs.length = i ∧ ∀ k x, xs[k]? = some x → P k x H', ⟨n, by simp, Nat.zero_le _, Ex.new nD, [], upd_same, rfl, fun k x hx => by simp at hx⟩, ?_⟩
    rintro i m H' ⟨rfl, hi, e, xs, hD, hl, hP⟩
    by_cases hlt : i < n
    · refine .inr ⟨G.go i H' e hlt, fun H'' => i + 1 ≤ n ∧ Ex H1 H'' ∧ ∃ xs : List V, H'' D = some (.lst xs) ∧ xs.length = i + 1 ∧ ∀ k x, xs[k]? = some x → P k x H'', fun H'' p => ⟨n - (i + 1), by omega, rfl, p⟩, fun x H2 y => ?_⟩
      obtain ⟨rfl, rfl⟩ := G.yld i x H' H2 e hlt y
      refine ⟨hw _, ?_⟩
      refine yesT8 ?_
      refine he i H2 ((e0.trans e1).trans e) hlt H2 (Ex.refl _) _ fun v H3 e3 p => ?_
      have hD3 := e3 _ _ hD
      refine ⟨xs, hD3, sz_lt (by omega), hlt, (e.trans e3).mut nD, xs ++ [v], upd_same, by rw [List.length_append, hl]; rfl, fun k x hx => ?_⟩
      by_cases hk : k < xs.length
      · rw [List.getElem?_append_left hk] at hx
        exact nolst k x H3 D xs _ hD3 (mono k x _ _ e3 (hP k x hx))
      · rw [List.getElem?_append_right (by omega)] at hx
        have hk0 : k - xs.length = 0 := by
          have := (List.getElem?_eq_some_iff.mp hx).1
          simp at this
          omega
        rw [hk0] at hx
        obtain rfl : v = x := by simpa using hx
        obtain rfl : k = i := by omega
        exact nolst k v H3 D xs _ hD3 p
    · obtain rfl : i = n := by omega
      exact .inl ⟨G.stop _ e, q _ _ (e1.trans e) ⟨D, xs, rfl, hD, hl, hP⟩⟩
theorem paired_of {α β : Type} {R : α → β → Prop} : ∀ {xs : List α} {ys : List β}, xs.length = ys.length → (∀ (i : Nat) x y, xs[i]? = some x → ys[i]? = some y → R x y) → Paired R xs ys
  | [], [], _, _ => .nil
  | x :: xs, y :: ys, hl, h => .cons (h 0 x y rfl rfl) (paired_of (Nat.succ.inj hl) fun i a b ha hb => h (i + 1) a b (by rw [List.getElem?_cons_succ]; exact ha) (by rw [List.getElem?_cons_succ]; exact hb))
end Tk
namespace Tk
open PySem PySem.Spec PyProof.Rows L2 Evl
/-! methods and classes that raise -/
structure MakX (P : Program) (w : World) (K : PySem.W.Frag) (mg : Str → Option Value) (base : Heap) (k : Nat) (x : Str) (C : Addr) (sp : Sp) (ps : List Str) : Prop where
  ex : ∃ (f : Addr) (fd : FuncData), Mk K C f ∧ FnOk P w K mg base (L2.CX P w) k f fd ps sp ∧ mg x = some (.ref C) ∧ Binds K fd ps []
section
variable {P : Program} {w : World} {K : PySem.W.Frag} {mg : Str → Option Value} {base : Heap}
theorem makX {x qual : Str} {C : Addr} {st : Stmt} {f : Addr} {fd : FuncData} {N ps : List Str} {k : Nat} {sp : Sp} (M : Mk K C f) (hm : mg x = some (.ref C)) (F : C8.Fun K "__init__" qual st f fd) (b : Binds K fd ps []) (S : FnScope N ps (C8.fnScope st)) (len : ∀ vs H Q E, sp vs H Q E → vs.length = ps.length)
    (hbody : ∀ (cdv : Value) (A : Around) (outer : List Env) (s : Shared) (H : Hp) (vs : List V) (Q : VK) (E : XK), Room k (A.deeper (envOfC qual (C8.fnScope st) s.heap.objs.size f cdv)) → sp vs H Q E →
      ∃ t, PSs (cxOf (L2.CX P w) P w K mg base N qual (C8.fnScope st) f cdv A outer s H E) (C8.fnBody st) t ∧ t { nx := fun _ H' => Q .non H', rt := Q } (start N vs) H) : MakX P w K mg base (k + 1) x C sp ps :=
  ⟨f, fd, M, fnX7 F S len hbody, hm, b⟩
end
def tMethT (C : Addr) (m : Str) (sp : Sp) (E : L2.St → XK) (ta : TE) (t : TA) : TE := fun σ H Q => ta σ H fun x H1 => ∃ a dx fs, x = .ref a ∧ H1 a = some (.ins C dx fs) ∧ fs.lookup m = none ∧ t σ H1 fun vs H2 => sp (x :: vs) H2 Q (E σ)
section
variable {X : Cx} {k j : Nat} {sp : Sp} {E : XK} {W : WX} {C : Addr} {x m : Str} {p pos apos : Pos} {e o : Expr} {es : List Expr} {ta : TE} {t : TA} {ps : List Str}
theorem pe_mX {pl : Sem Bool} (c : MetX X.prog X.w X.K X.mg X.base k C m sp) (hx : Passes (L2.CX X.prog X.w) X E) (hr : Room j X.A) (hk : k ≤ j) (he : PE X o ta) (ha : PA X (e :: es) t)
    (hst : starEach (e :: es) X.env = (false, eval e X.env) :: starEach es X.env := by rfl) (hpl : (backTo pos (starEach es X.env)).any (·.1) = false := by rfl)
    (ht : eval (.Call (.Attribute o m apos) (e :: es) [] pos) X.env = (do
      let ov ← eval o X.env
      standAt apos.atName
      let (f, first) ← holding [ov] (getMethod ov m pl)
      callWith pos f first (backTo pos (starEach (e :: es) X.env)) (backToKw pos (keywordEach [] X.env))) := by rfl) :
    PE X (.Call (.Attribute o m apos) (e :: es) [] pos) (tMeth C m sp [] E ta t) := by
  obtain ⟨f, fd, ps, hc, hm, F, b⟩ := c.ex
  exact pe_meth (pl := pl) he hc hm F (hr.mono hk) b .nil hx ha hst hpl ht
/-- in a try -/
theorem pe_mT {pl : Sem Bool} (c : MetX X.prog X.w X.K X.mg X.base k C m sp) (tk : Takes X W) (hr : Room j X.A) (hk : k ≤ j) (he : PE X o ta) (ha : PA X (e :: es) t)
    (hst : starEach (e :: es) X.env = (false, eval e X.env) :: starEach es X.env := by rfl) (hpl : (backTo pos (starEach es X.env)).any (·.1) = false := by rfl)
    (ht : eval (.Call (.Attribute o m apos) (e :: es) [] pos) X.env = (do
      let ov ← eval o X.env
      standAt apos.atName
      let (f, first) ← holding [ov] (getMethod ov m pl)
      callWith pos f first (backTo pos (starEach (e :: es) X.env)) (backToKw pos (keywordEach [] X.env))) := by rfl) :
    PE X (.Call (.Attribute o m apos) (e :: es) [] pos) (tMethT C m sp (WE W) ta t) := by
  obtain ⟨f, fd, ps, hc, hm, F, b⟩ := c.ex
  refine ⟨fun pins s σ H Q I h => ?_⟩
  refine PySem.W.methodCall_KW (pl := pl) (thn (he.run pins s σ H _ I h) fun u s1 ⟨x, H1, I1, rx, a, dx, fs, ex, ea, l, q⟩ => ?_) ht
  subst ex
  obtain rfl : u = Value.ref a := rx
  refine getmeth_ok I1 ea hc hm l ?_
  refine PySem.W.callWith_K (first := [.ref a]) (h₀ := X.base) I.ok.mod.kin hm.kp (thn (ha.run pos pins s1 σ H1 _ I1 q) fun us s2 ⟨vs, H2, I2, r, q2⟩ => ⟨I2.kIn, ?_⟩) hst hpl
  exact run_fnS (us := .ref a :: us) (vs := .ref a :: vs) F (hr.mono hk) b (passAt tk σ) I2 (.cons rfl r) q2
theorem pe_mkX9 (c : MakX X.prog X.w X.K X.mg X.base k x C sp ps) (hx : Passes (L2.CX X.prog X.w) X E) (hr : Room j X.A) (hk : k + 1 ≤ j) (hg : Gl X x) (ha : PA X (e :: es) t)
    (hdb : (x == ("__debug__" : Str)) = false := by decide) (he : starEach (e :: es) X.env = (false, eval e X.env) :: starEach es X.env := by rfl) (hpl : (backTo pos (starEach es X.env)).any (·.1) = false := by rfl) :
    PE X (.Call (.Name x p) (e :: es) [] pos) (tMake C sp [] E t) := by
  obtain ⟨f, fd, M, F, hm, b⟩ := c.ex
  exact pe_make M F (hr.mono hk) hg hm b .nil hx ha hdb he hpl
theorem pe_mkT9 (c : MakX X.prog X.w X.K X.mg X.base k x C sp ps) (tk : Takes X W) (hr : Room j X.A) (hk : k + 1 ≤ j) (hg : Gl X x) (ha : PA X (e :: es) t)
    (hdb : (x == ("__debug__" : Str)) = false := by decide) (he : starEach (e :: es) X.env = (false, eval e X.env) :: starEach es X.env := by rfl) (hpl : (backTo pos (starEach es X.env)).any (·.1) = false := by rfl) :
    PE X (.Call (.Name x p) (e :: es) [] pos) (tMakeS C sp (WE W) t) := by
  obtain ⟨f, fd, M, F, hm, b⟩ := c.ex
  exact pe_makeS M F (hr.mono hk) hg hm b (fun σ => passAt tk σ) ha hdb he hpl
end
end Tk
namespace Tk
open PySem PySem.Spec PyProof.Rows L2 Evl
/-! loops whose items are known by what holds of them; the walk may lay new things -/
structure GenE (J : It) (Y : Nat → V → Hp → Prop) (n : Nat) (H : Hp) : Prop where
  go : ∀ i H1, Ex H H1 → i < n → J.go i H1
  yld : ∀ i x H1 H2, Ex H H1 → i < n → J.yld i H1 x H2 → Ex H1 H2 ∧ Y i x H2
  stop : ∀ H1, Ex H H1 → J.stop n H1
def EvG (wi : TI) (σ : L2.St) (H : Hp) (Y : Nat → V → Hp → Prop) (n : Nat) : Prop := ∀ H1, Ex H H1 → ∀ R : It → Hp → Prop, (∀ J H2, Ex H1 H2 → GenE J Y n H2 → R J H2) → wi σ H1 R
section
variable {K : PySem.W.Frag} {σ s : L2.St} {H : Hp} {wi : TI} {Y : Nat → V → Hp → Prop} {n : Nat} {g : TG} {u tz : TS} {W : V → Hp → Prop} {P : L2.St → Prop}
theorem rtwp_forG (Iv : Nat → L2.St → Prop) (i0 : Iv 0 σ) (h : EvG wi σ H Y n) (hs : ∀ i s x H', i < n → Iv i s → Ex H H' → Y i x H' → GNxP g u x s H' (Iv (i + 1)) ∨ GRtW g u x s H' W) (rest : ∀ s, Iv n s → RtW tz s H W) : RtW (tSeq (tFor wi g u) tz) σ H W := fun H1 e D q =>
  h H1 e _ fun J H2 e2 G => by
    refine ⟨fun i m s H3 => m = n - i ∧ i ≤ n ∧ Iv i s ∧ Ex H2 H3, ⟨n, by simp, Nat.zero_le _, i0, Ex.refl _⟩, ?_⟩
    rintro i m s H3 ⟨rfl, hi, hv, e3⟩
    by_cases hlt : i < n
    · refine .inr ⟨G.go i H3 e3 hlt, fun s' H' => Iv (i + 1) s' ∧ Ex H2 H', fun s' H' p => ⟨n - (i + 1), by omega, rfl, hlt, p.1, p.2⟩, fun x H' y => ?_⟩
      obtain ⟨ey, yy⟩ := G.yld i x H3 H' e3 hlt y
      have e4 := ((e.trans e2).trans e3).trans ey
      rcases hs i s x H' hlt hv e4 yy with z | z
      · exact z _ (Ex.refl _) _ fun s' H4 e5 p => ⟨p, (e3.trans ey).trans e5⟩
      · exact z _ (Ex.refl _) _ fun v H4 e5 w => q v H4 (((e2.trans e3).trans ey).trans e5) w
    · obtain rfl : i = n := by omega
      exact .inl ⟨G.stop _ e3, rest s hv H3 ((e.trans e2).trans e3) D fun v H4 e4 w => q v H4 ((e2.trans e3).trans e4) w⟩
theorem rtwp_forG0 (Iv : Nat → L2.St → Prop) (i0 : Iv 0 σ) (h : EvG wi σ H Y n) (hs : ∀ i s x H', i < n → Iv i s → Ex H H' → Y i x H' → GNxP g u x s H' (Iv (i + 1)) ∨ GRtW g u x s H' W) (rest : ∀ s, Iv n s → False) : RtW (tFor wi g u) σ H W := fun H1 e D q =>
  h H1 e _ fun J H2 e2 G => by
    refine ⟨fun i m s H3 => m = n - i ∧ i ≤ n ∧ Iv i s ∧ Ex H2 H3, ⟨n, by simp, Nat.zero_le _, i0, Ex.refl _⟩, ?_⟩
    rintro i m s H3 ⟨rfl, hi, hv, e3⟩
    by_cases hlt : i < n
    · refine .inr ⟨G.go i H3 e3 hlt, fun s' H' => Iv (i + 1) s' ∧ Ex H2 H', fun s' H' p => ⟨n - (i + 1), by omega, rfl, hlt, p.1, p.2⟩, fun x H' y => ?_⟩
      obtain ⟨ey, yy⟩ := G.yld i x H3 H' e3 hlt y
      have e4 := ((e.trans e2).trans e3).trans ey
      rcases hs i s x H' hlt hv e4 yy with z | z
      · exact z _ (Ex.refl _) _ fun s' H4 e5 p => ⟨p, (e3.trans ey).trans e5⟩
      · exact z _ (Ex.refl _) _ fun v H4 e5 w => q v H4 (((e2.trans e3).trans ey).trans e5) w
    · obtain rfl : i = n := by omega
      exact (rest s hv).elim
theorem nxp_forG (Iv : Nat → L2.St → Prop) (i0 : Iv 0 σ) (h : EvG wi σ H Y n) (hs : ∀ i s x H', i < n → Iv i s → Ex H H' → Y i x H' → GNxP g u x s H' (Iv (i + 1))) : NxP (tFor wi g u) σ H (Iv n) := fun H1 e D q =>
  h H1 e _ fun J H2 e2 G => by
    refine ⟨fun i m s H3 => m = n - i ∧ i ≤ n ∧ Iv i s ∧ Ex H2 H3, ⟨n, by simp, Nat.zero_le _, i0, Ex.refl _⟩, ?_⟩
    rintro i m s H3 ⟨rfl, hi, hv, e3⟩
    by_cases hlt : i < n
    · refine .inr ⟨G.go i H3 e3 hlt, fun s' H' => Iv (i + 1) s' ∧ Ex H2 H', fun s' H' p => ⟨n - (i + 1), by omega, rfl, hlt, p.1, p.2⟩, fun x H' y => ?_⟩
      obtain ⟨ey, yy⟩ := G.yld i x H3 H' e3 hlt y
      exact hs i s x H' hlt hv (((e.trans e2).trans e3).trans ey) yy _ (Ex.refl _) _ fun s' H4 e5 p => ⟨p, (e3.trans ey).trans e5⟩
    · obtain rfl : i = n := by omega
      exact .inl ⟨G.stop _ e3, q _ _ (e2.trans e3) hv⟩
theorem gnxp_tup2 {i j : Nat} {a : Addr} {x y : V} (h : SqT K H a [x, y]) (k : NxP u ((s.set i (some x)).set j (some y)) H P) : GNxP (gTup K 2 (gCons (gName i) (gCons (gName j) gNil))) u (.ref a) s H P := fun H1 e D q =>
  ⟨a, [x, y], rfl, ex_t e h, rfl, x, [y], rfl, y, [], rfl, rfl, k H1 e D q⟩
theorem grtw_tup2 {i j : Nat} {a : Addr} {x y : V} (h : SqT K H a [x, y]) (k : RtW u ((s.set i (some x)).set j (some y)) H W) : GRtW (gTup K 2 (gCons (gName i) (gCons (gName j) gNil))) u (.ref a) s H W := fun H1 e D q =>
  ⟨a, [x, y], rfl, ex_t e h, rfl, x, [y], rfl, y, [], rfl, rfl, k H1 e D q⟩
/-- enumerate(l) -/
theorem eg_enum {ta : TE} {a : Addr} {xs : List V} (h : Ev ta σ H (.ref a)) (hx : SqL K H a xs) : EvG (iEnum K (tCons ta tNil)) σ H (fun i v H2 => ∃ T x, v = .ref T ∧ xs[i]? = some x ∧ SqT K H2 T [.int (i : Nat), x]) xs.length := fun H1 e R q =>
  h H1 e _ fun H2 e2 => by
    have hx2 := ex_l (e.trans e2) hx
    refine ⟨a, xs, rfl, hx2, q _ H2 e2 ⟨fun i H3 e3 hi => ⟨xs, xs[i], ex_l e3 hx2, by simp [hi]⟩, fun i x H3 H4 e3 hi y => ?_, fun H3 e3 => ⟨xs, ex_l e3 hx2, Nat.le_refl _⟩⟩⟩
    obtain ⟨T, z, rfl, nT, rfl, hz⟩ := y
    exact ⟨Ex.new nT, T, z, rfl, hz xs (ex_l e3 hx2), st_of upd_same⟩
/-- for .. in ((x0, y0), (x1, y1)): a display -/
theorem eg_pairs {t0 t1 : TE} {x0 y0 x1 y1 : V} (h0 : EvU t0 σ H [x0, y0]) (h1 : EvU t1 σ H [x1, y1]) : EvG (iTup K (tTup (tCons t0 (tCons t1 tNil)))) σ H (fun i v H2 => ∃ T, v = .ref T ∧ SqT K H2 T [if i = 0 then x0 else x1, if i = 0 then y0 else y1]) 2 := fun H1 e R q =>
  h0 H1 e _ fun p0 H2 _ e2 hp0 => h1 H2 (e.trans e2) _ fun p1 H3 _ e3 hp1 => by
    refine ⟨by show 2 ≤ sizeLine; decide, fun p np => ?_⟩
    have e4 := Ex.new (o := HO.tup [.ref p0, .ref p1]) np
    have hp : SqT K (upd H3 p (.tup [.ref p0, .ref p1])) p [.ref p0, .ref p1] := st_of upd_same
    have g0 := e4 _ _ (e3 _ _ hp0)
    have g1 := e4 _ _ hp1
    refine ⟨p, rfl, ⟨_, hp⟩, q _ _ ((e2.trans e3).trans e4) ⟨fun i H5 e5 hi => ⟨_, [V.ref p0, V.ref p1][i]'hi, ex_t e5 hp, by rw [List.getElem?_eq_getElem hi]⟩, fun i x H5 H6 e5 hi y => ?_, fun H5 e5 => ⟨_, ex_t e5 hp, Nat.le_refl _⟩⟩⟩
    obtain ⟨rfl, y2⟩ := y
    have z := y2 _ (ex_t e5 hp)
    refine ⟨Ex.refl _, ?_⟩
    cases i with
    | zero =>
      obtain rfl : V.ref p0 = x := by simpa using z
      exact ⟨p0, rfl, st_of (e5 _ _ g0)⟩
    | succ i =>
      cases i with
      | zero =>
        obtain rfl : V.ref p1 = x := by simpa using z
        exact ⟨p1, rfl, st_of (e5 _ _ g1)⟩
      | succ i => omega
/-- a text, sign by sign -/
theorem ei_s {te : TE} {z : Str} (h : Ev te σ H (.str z)) : EvI (iStr te) σ H (fun i => .str ⟨#[z.cps.getD i 0]⟩) z.cps.size := fun H1 e R q =>
  h H1 e _ fun H2 e2 => ⟨z, rfl, q _ H2 e2 ⟨fun _ _ _ hi => hi, fun i x H3 H4 _ hi y => by
    obtain ⟨y1, c, y2, y3⟩ := y
    refine ⟨y1, ?_⟩
    rw [y3, Array.getD_eq_getD_getElem?, y2]
    rfl, fun _ _ => Nat.le_refl _⟩⟩
/-- f(xs + ys, ..) -/
theorem ev_callL {R : List V → Hp → V → Prop} {te : TE} {tr : TA} {xs vs : List V} {v : V} {E : XK} (h : EvL te σ H xs) (ha : EvA tr σ H vs) (hR : ∀ p H1, Ex H H1 → H1 p = some (.lst xs) → R (.ref p :: vs) H1 v) : Ev (tCall (spF R) [] E (tCons te tr)) σ H v := fun H1 e Q q =>
  h H1 e _ fun p H2 np e2 hp => ha H2 (e.trans e2) _ fun H3 e3 => by
    show spF R ((V.ref p :: vs) ++ []) H3 Q E
    rw [List.append_nil]
    exact ⟨v, fun H4 e4 => hR p H4 (((e.trans e2).trans e3).trans e4) ((e3.trans e4) _ _ hp), fun H4 e4 => q H4 ((e2.trans e3).trans e4)⟩
theorem ev_din {ty td : TE} {k : Key} {d : Addr} {kvs : List (Key × V)} (ha : Ev ty σ H (kV k)) (hb : Ev td σ H (.ref d)) (hd : H d = some (.dK kvs)) : Ev (tDIn ty td) σ H (.bl (valV kvs k).isSome) := fun H1 e Q q =>
  ha H1 e _ fun H2 e2 => hb H2 (e.trans e2) _ fun H3 e3 => ⟨d, _, rfl, DGet.k (((e.trans e2).trans e3) _ _ hd), q H3 (e2.trans e3)⟩
theorem ev_dget {ty td : TE} {k : Key} {v : V} {d : Addr} {kvs : List (Key × V)} (ha : Ev td σ H (.ref d)) (hb : Ev ty σ H (kV k)) (hd : H d = some (.dK kvs)) (hv : valV kvs k = some v) : Ev (tDGet td ty) σ H v := fun H1 e Q q =>
  ha H1 e _ fun H2 e2 => hb H2 (e.trans e2) _ fun H3 e3 => ⟨d, v, rfl, hv ▸ DGet.k (((e.trans e2).trans e3) _ _ hd), q H3 (e2.trans e3)⟩
theorem ev_allB {te : TE} {bs : List Bool} (h : EvW te σ H fun v H1 => ∃ l, v = .ref l ∧ H1 l = some (.lst (bs.map V.bl))) : Ev (tCB (rAll K) (tCons te tNil)) σ H (.bl (bs.all id)) := fun H1 e Q q =>
  h H1 e _ fun v H2 e2 ⟨l, ev, hl⟩ => ⟨l, bs, by rw [ev], sq_of hl, q H2 e2⟩
theorem ev_lenS {te : TE} {z : Str} (h : Ev te σ H (.str z)) (hz : z.length ≤ 100000) : Ev (tCB (fun xs H Q => ∃ z : Str, xs = [.str z] ∧ z.length ≤ sizeLine ∧ Q (.int z.length) H) (tCons te tNil)) σ H (.int (z.length : Int)) := fun H1 e Q q =>
  h H1 e _ fun H2 e2 => ⟨z, rfl, sz_of hz, q H2 e2⟩
end
end Tk
namespace Evl
open PySem PySem.Spec PyProof.Rows L2
section
variable {X : Cx}
/-- xs.remove(x), over data -/
def rRemD (K : PySem.W.Frag) : V → List V → Hp → VK → Prop := fun x xs H Q => ∃ (l : Addr) (vs : List V) (y : V) (d : PyData) (ds : List PyData) (j : Nat) (z : PyData), x = .ref l ∧ xs = [y] ∧ H l = some (.lst vs) ∧ DpAll K H vs ds ∧ Dp K H y d ∧
  SeqAt.shaped (.list ds) = true ∧ SeqAt.shaped d = true ∧ ds[j]? = some z ∧ PyData.eqv z d = true ∧ (∀ (m : Nat) (z' : PyData), m < j → ds[m]? = some z' → PyData.eqv z' d = false) ∧ Q .non (upd H l (.lst (vs.eraseIdx j)))
theorem mt_removeD (hu : X.A.units + 65 < cLine) : MtM X "list.remove" (rRemD X.K) := by
  intro pins s σ H x xs v us Q I rx rxs h
  obtain ⟨l, vs, y, d, ds, j, z, rfl, rfl, hH, ha, hy, sl, sd, hz, hzj, hno, q⟩ := h
  cases rx
  cases rxs with
  | cons ry rt =>
    rename_i uy ut
    cases rt
    obtain ⟨bs, r1⟩ := Dp.reads I d y uy hy ry
    have hxs : PyData.canLayAll0 ds = true := SeqAt.canLay_of_shaped sl
    have hroom : X.A.units + 1 + min (PyData.depthAll ds) d.depth < cLine := room_in_shaped sd hu
    obtain ⟨zl, its, n, rv, hlen, ho⟩ := I.lstM hH
    obtain ⟨as, h4⟩ := Dp.readsAll I ds _ its ha rv
    have hn : its.length = ds.length := SeqAt.ReadsAll.length ds its as h4
    have hmap : its.map (SeqAt.readOf s.heap) = ds := SeqAt.readsAll_map ds its as hxs h4
    have hvl := rv.length
    have hsl := sizeLine_eq
    obtain ⟨hjd, _⟩ := List.getElem?_eq_some_iff.mp hz
    have hjl : j < its.length := by omega
    have hj : j < its.toArray.size := by simpa using hjl
    have at_ : ∀ (m : Nat) (hm : m < its.toArray.size) (z' : PyData), ds[m]? = some z' → SeqAt.readOf s.heap its.toArray[m] = z' := by
      intro m hm z' hz'
      have hml : m < its.length := by simpa using hm
      rw [← hmap, List.getElem?_map, List.getElem?_eq_getElem hml] at hz'
      have e1 : SeqAt.readOf s.heap its[m] = z' := Option.some.inj (show some (SeqAt.readOf s.heap its[m]) = some z' from hz')
      simpa using e1
    refine call_meets PySem.F.slot_list_remove ⟨_, ho, rfl⟩ PySem.F.entry_list_remove (PySem.F.args_list_remove_2 _ _)
      (SeqAt.list_removeAt l its.toArray n none #[] uy (fun u => PyData.eqv (SeqAt.readOf s.heap u) d) j hj ?_ ?_ (by rw [List.size_toArray]; omega)) ⟨ho, SeqAt.items_eqAt (vs := its.toArray) (show ReadsAll s.heap its.toArray.toList ds as from h4) r1 hxs (SeqAt.canLay_of_shaped sd) hroom, ?_⟩
    · show PyData.eqv (SeqAt.readOf s.heap its.toArray[j]) d = true
      rw [at_ j hj z hz]
      exact hzj
    · intro m hm hmj
      have hmd : m < ds.length := by omega
      have hz' : ds[m]? = some ds[m] := List.getElem?_eq_getElem hmd
      show PyData.eqv (SeqAt.readOf s.heap its.toArray[m]) d = false
      rw [at_ m hm _ hz']
      exact hno m _ hmj hz'
    · have rr := rv.eraseIdx j
      refine ⟨.non, _, I.lset (its' := its.eraseIdx j) (t' := s.toks) hH ho ?_ rr ?_, rfl, q⟩
      · show its.toArray.eraseIdxIfInBounds j = (its.eraseIdx j).toArray
        rw [List.eraseIdxIfInBounds_toArray]
      · have := List.length_eraseIdx_le vs j
        omega
end
end Evl
namespace L2
open PySem PySem.Spec PyProof.Rows
theorem Room.units65 {k : Nat} {A : Around} (r : Room k A) : A.units + 65 < cLine := by have := r.un; omega
end L2
namespace Evl
open PySem PySem.Spec PyProof.Rows L2
/-! set(l) of a list of numbers, sorted(..) of such a set: of any size -/
abbrev nSet (w : World) : Obj := { cls := .type "set", dict := none, data := .set #[] 0 (.fresh 0 0 (!w.params.followText "set-order")) }
section
variable {P : Program} {w : World} {A : Around} {E : Value → Shared → Prop} {s : Shared}
theorem set_of_list {l : Addr} {items : Array Value} (ns : List Int) {Q : Value → Shared → Prop} (hA : A.handled = none) (lst : s.heap.IsList l items) (nums : IntsAre items.toList ns) (few : ns.length + 1 < scanBound)
    (k : ∀ (h' : Heap) (tk c : Nat), SetR w h' s.heap.objs.size (fun j => decide (j ∈ ns)) c → c ≤ ns.length → (∀ b o, s.heap.get? b = some o → h'.get? b = some o) → Q (.ref s.heap.objs.size) { s with heap := h', toks := tk }) :
    wpAny (model P w) A (call (.type "set") [.ref l]) Q E s := by
  have size : items.size = ns.length := by
    have z := IntsAre.length nums
    rwa [Array.length_toList] at z
  have f1 := F.called_set.mro
  obtain ⟨_, _, f1⟩ := f1
  have f2 := F.called_set.made
  have f3 := F.called_set.sub
  have f4 := F.called_set.notType
  have f5 := F.called_set.canCreate
  have f6 := F.typeCall_set_1 (.ref l)
  refine wpAny_call (codeAny_of_tree ?_)
  show wpAny _ _ (callAny (.type "set") _) _ _ _
  refine wpAny_pure ⟨Code.quiet_builtin _ (by decide +kernel), codeAny_builtin F.entry_type_call ?_⟩
  rw [Around.under_plain (weight_type_call_type "set" [.ref l] []) rfl]
  repeat (any_goals (first | assumption | wp_step))
  refine codeAny_mono (code_set_led1 (.ref l) (E := E) (Q₁ := fun ob s1 => ob = .ref s.heap.objs.size ∧ s1 = { s with heap := s.heap.push (nSet w) }) ⟨rfl, rfl⟩) fun r s1 hr => ?_
  match r, hr with
  | .error _, hr => exact hr
  | .ok (.ret ob), hr =>
    obtain ⟨rfl, rfl⟩ := hr
    have here : (s.heap.push (nSet w)).get? s.heap.objs.size = some (nSet w) := Heap.get?_push_size _ rfl
    have ty : Shared.TypeIs { s with heap := s.heap.push (nSet w) } (.ref s.heap.objs.size) "set" := ⟨_, here, rfl⟩
    have f7 := F.called_set.init.lookup
    have f8 := F.called_set.init.bind (.ref s.heap.objs.size)
    repeat (any_goals (first | assumption | wp_step))
    refine codeAny_mono (codeAny_call_builtin (R := wants (fun r s2 => r = .none ∧ ∃ h' tk c, s2 = { s with heap := h', toks := tk } ∧ SetR w h' s.heap.objs.size (fun j => decide (j ∈ ns)) c ∧ c ≤ ns.length ∧ (∀ b o, s.heap.get? b = some o → h'.get? b = some o)) E) F.called_set.init.plain F.entry_set_init (check_set_init_1 ty ?_)) fun r2 s2 hr2 => ?_
    · obtain ⟨⟨oc, od, odt, osl⟩, ho, hc, n0, hd⟩ := lst
      simp only at hc hd
      subst hc hd
      have up : (s.heap.push (nSet w)).get? l = some { cls := .type "list", dict := od, data := .seq items n0, slots := osl } := Heap.get?_push_of_some _ ho
      have g1 := F.sub_list_set
      have g2 := F.sub_list_frozenset
      have g3 : (Value.type "list" == Value.type "dict") = false := by decide
      have lst1 : (s.heap.push (nSet w)).IsList l items := ⟨_, up, rfl, n0, rfl⟩
      unfold Builtin.«set.__init__» noKeywords Builtin.Frozenset.updateFrom
      generalize hPI : pyIter = PI
      wp_walk
      subst hPI
      refine wpAny_pyIter_list lst1 ?_
      refine wpAny_bind (wpAny_runValue ?_)
      have below : l < s.heap.objs.size := Heap.lt_size ho
      have none3 : A.in1.in1.in1.handled = none := by simp [hA]
      have apart : l ≠ (s.heap.push (nSet w)).objs.size := by
        rw [Heap.size_push]
        exact Nat.ne_of_lt (Nat.lt_succ_of_lt below)
      have out : s.heap.objs.size ∉ [(s.heap.push (nSet w)).objs.size, l] := by
        rw [Heap.size_push]
        simp only [List.mem_cons, List.mem_singleton, List.not_mem_nil, or_false, not_or]
        exact And.intro (Nat.ne_of_lt (Nat.lt_succ_self _)) (Nat.ne_of_gt below)
      have vals : ∀ (i : Nat) (v : Value), items[i]? = some v → ∃ k t, ns[i]? = some k ∧ v = .int k t := fun i v hv => by
        have hi : i < ns.length := by
          rw [← size]
          exact (Array.getElem?_eq_some_iff.mp hv).1
        obtain ⟨t, e⟩ := IntsAre.int_at nums i v (by rw [Array.getElem?_toList]; exact hv)
        refine ⟨ns[i], t, List.getElem?_eq_getElem hi, ?_⟩
        rw [e, List.getD_eq_getElem?_getD, List.getElem?_eq_getElem hi] <;> rfl
      refine set_update_ints ((Walks.list none3 _ l apart items).toS) s.heap.objs.size out ns size few vals (items.size - 0) 0 _ (by omega) (Nat.zero_le _) ⟨⟨_, Heap.get?_push_size _ rfl, rfl, rfl⟩, lst1.push _⟩ ⟨0, Nat.le_refl 0, setR_new_at (Heap.get?_push_of_some _ here)⟩ fun s' c' hm hc' hS' => ?_
      obtain ⟨h', gg, dd, tk', oo⟩ := s'
      obtain rfl : gg = s.gens := hm.gens
      obtain rfl : dd = s.drawn := hm.drawn
      obtain rfl : oo = s.os := hm.os
      show wpAny _ _ _ _ _ _
      refine wpAny_pure ?_
      show wpAny _ _ (ret Value.none) _ _ _
      refine wpAny_pure ⟨rfl, h', tk', c', rfl, hS', by omega, fun b o e => ?_⟩
      have lt := Heap.lt_size e
      refine hm.heap b o ?_ (Heap.get?_push_of_some _ (Heap.get?_push_of_some _ e))
      rw [Heap.size_push]
      simp only [List.mem_cons, List.mem_singleton, List.not_mem_nil, or_false, not_or]
      exact And.intro (Nat.ne_of_lt lt) (Nat.ne_of_lt (Nat.lt_succ_of_lt lt))
    · match r2, hr2 with
      | .error _, hr2 => exact hr2
      | .ok (.ret _), hr2 =>
        obtain ⟨rfl, h', tk, c', rfl, a1, a2, a3⟩ := hr2
        repeat (any_goals (first | assumption | wp_step))
        exact k _ _ _ a1 a2 a3
theorem sorted_setN {a : Addr} {S : Int → Bool} {n : Nat} {Q : Value → Shared → Prop} (R : SetR w s.heap a S n) (hA : A.handled = none) (hz : n ≤ sizeLine)
    (k : ∀ s' p (out : Array Value) (c : Nat) (ns : List Int), (∀ b o, s.heap.get? b = some o → s'.heap.get? b = some o) → s'.gens = s.gens → s'.os = s.os → s.heap.objs.size ≤ p →
      s'.heap.get? p = some (seqObj "list" out c) → IntsAre out.toList ns → ns.Pairwise (· ≤ ·) → (∀ k, k ∈ ns ↔ S k = true) → ns.length = n → Q (.ref p) s') :
    wpAny (model P w) A (call (.builtin "sorted") [.ref a]) Q E s := by
  obtain ⟨o, es, ep, t, ho, hex, hd, g, nd, hm, hb, hf, hn, hr, hl⟩ := R
  refine Calls.call_function_entry kind_sorted plain_sorted entry_sorted (args_sorted1 _) ?_
  unfold Builtin.«sorted»
  refine wpAny_bind (m := checkCount "sorted" 1 1 _) (wpAny_pure ?_)
  refine wpAny_bind (collect_set (A := A.in1) hA ⟨o, ho, hex.1, hd⟩ hf hb hr hl fun s1 vs k1 sz g1 o1 pm => ?_)
  have many : vs.length = n := by
    rw [pm.length_eq, List.length_map, Array.length_toList]
    exact hn
  have nums : IntsAre vs (vs.map Builtin.Re.reRawOf) := ints_of vs fun v hv => by
    obtain ⟨e, he, z⟩ := List.mem_map.mp (pm.mem_iff.mp hv)
    obtain ⟨i, tk, h1, _⟩ := g e he
    exact ⟨i, tk, by rw [← z]; exact h1⟩
  have perm : (vs.map Builtin.Re.reRawOf).Perm (es.toList.map keyOf) := by
    have z := pm.map Builtin.Re.reRawOf
    rw [List.map_map] at z
    exact z
  refine wpAny_bind (wpAny_newList ?_ (by rw [many]; exact hz))
  have fresh : (s1.heap.push (seqObj "list" vs.toArray 0)).get? s1.heap.objs.size = some (seqObj "list" vs.toArray 0) := Heap.get?_push_size _ rfl
  refine wpAny_bind (wpAny_holding (wpAny_call_entry slot_list_sort ⟨_, fresh, rfl⟩ entry_list_sort (SrtO.list_sort_ord SrtO.swo_int fresh (by rw [many]; exact hz) (fun h2 => SrtO.ints_sortable nums h2) fun out h1 h2 => ⟨_, rfl, ?_⟩) (args_list_sort _)))
  obtain ⟨q1, q2, q3⟩ := SrtO.ints_out nums h1 h2
  obtain ⟨c, hc⟩ := sortedHeap_at (vs := vs) (out := out.toArray) fresh
  have pn := q2.trans perm
  refine wpAny_pure ⟨_, rfl, k _ s1.heap.objs.size out.toArray c (out.map SrtO.iv) (fun b u e => ?_) g1 o1 sz hc q1 q3 (fun j => by rw [pn.mem_iff, ← hm j]) ?_⟩
  · have z := k1 b u e
    have lt := Heap.lt_size z
    show (sortedHeap (s1.heap.push (seqObj "list" vs.toArray 0)) s1.heap.objs.size vs out.toArray).get? b = some u
    rw [sortedHeap_old (Nat.ne_of_lt lt) (by rw [size_push']; exact Nat.lt_succ_of_lt lt)]
    exact Heap.get?_push_of_some _ z
  · rw [pn.length_eq, List.length_map, Array.length_toList]
    exact hn
end
section
variable {X : Cx}
def rSetI (K : PySem.W.Frag) (w : World) : List V → Hp → VK → Prop := fun xs H Q => ∃ (l : Addr) (ns : List Int), xs = [.ref l] ∧ SqL K H l (ns.map V.int) ∧ ns.length ≤ 1000 ∧ ∀ p c, H p = none → c ≤ ns.length → Q (.ref p) (upd H p (SetO w p (fun j => decide (j ∈ ns)) c))
theorem cr_setI (hc : X.calm = true) : CallR X (.type "set") (rSetI X.K X.w) := by
  intro pins s σ H vs us Q I r h
  obtain ⟨l, ns, rfl, hs, hl, q⟩ := h
  obtain ⟨its, rv, pl, hz⟩ := I.list hs
  rw [Vals.ref1 r]
  refine set_of_list ns (I.ok.hd hc) pl.isList (by simpa using ints_of_vals rv) (by unfold scanBound; omega) fun h' tk c R hcn k => ?_
  have hn : H s.heap.objs.size = none := I.hok.fresh (Nat.le_refl _)
  have J : Inv X pins σ (upd H s.heap.objs.size (SetO X.w s.heap.objs.size (fun j => decide (j ∈ ns)) c)) { s with heap := h', toks := tk } := I.call (ch := []) (Un.laid k (Nat.le_refl _) hn) (I.hok.laid k (Nat.le_refl _) (setO_new R)) I.bare (fun _ z => nomatch z)
  exact ⟨.ref s.heap.objs.size, _, J, rfl, q _ c hn hcn⟩
def rSortSetN (w : World) : List V → Hp → VK → Prop := fun vs H Q => ∃ (a : Addr) (S : Int → Bool) (n : Nat), vs = [V.ref a] ∧ H a = some (SetO w a S n) ∧ n ≤ 1000 ∧
  ∀ (ns : List Int) (p : Addr), ns.Pairwise (· ≤ ·) → (∀ k : Int, k ∈ ns ↔ S k = true) → ns.length = n → H p = none → Q (.ref p) (upd H p (.lst (ns.map V.int)))
theorem cr_sortSetN (hc : X.calm = true) : CallR X (.builtin "sorted") (rSortSetN X.w) := by
  intro pins s σ H vs us Q I r h
  obtain ⟨a, S, n, rfl, ha, hz, q⟩ := h
  rw [Vals.ref1 r]
  refine sorted_setN (setO_get I ha) (I.ok.hd hc) (sz_of (by omega)) fun s' p out c ns k g o hp hg hi hs hm hl => ?_
  have hlen : (ns.map V.int).length ≤ sizeLine := sz_of (by rw [List.length_map]; omega)
  have hn : H p = none := I.hok.fresh hp
  have J : Inv X pins σ (upd H p (.lst (ns.map V.int))) { s with heap := s'.heap, gens := s'.gens, drawn := s'.drawn, toks := s'.toks } :=
    I.call (ch := []) (Un.laid k hp hn) (I.hok.laid k hp ⟨hlen, out.toList, c, vals_of_ints hi, hg⟩) (by rw [g]; exact I.bare) (fun _ z => nomatch z)
  have e : s' = { s with heap := s'.heap, gens := s'.gens, drawn := s'.drawn, toks := s'.toks } := by
    cases s'
    cases s
    cases o
    rfl
  rw [e]
  exact ⟨.ref p, _, J, rfl, q ns p hs hm hl hn⟩
end
end Evl
namespace Tk
open PySem PySem.Spec PyProof.Rows L2 Evl
def top (i : Nat) : Stmt := PySem.Challenge.pw_turnstile_k10_whole_earliest.main.body.getD i (.Pass ⟨0, 0, 0, 0⟩)
abbrev s_Broken_init : Stmt := inClass (top 8) 0
theorem sc_Broken_init : NdefX.NScope ["self", "k", "stretch", "__class__"] ["self", "k", "stretch"] ["__class__"] (C8.fnScope s_Broken_init) := NdefX.nscope_by (by decide +kernel)
abbrev s_is_within : Stmt := top 10
theorem sc_is_within : FnScope ["value", "least", "largest"] ["value", "least", "largest"] (C8.fnScope s_is_within) := C8.fnScope_by (by decide +kernel)
abbrev s_Meter_can : Stmt := inClass (top 12) 0
theorem sc_Meter_can : FnScope ["self", "moment", "cost"] ["self", "moment", "cost"] (C8.fnScope s_Meter_can) := C8.fnScope_by (by decide +kernel)
abbrev s_Meter_wait : Stmt := inClass (top 12) 1
theorem sc_Meter_wait : FnScope ["self", "moment", "cost"] ["self", "moment", "cost"] (C8.fnScope s_Meter_wait) := C8.fnScope_by (by decide +kernel)
abbrev s_Meter_take : Stmt := inClass (top 12) 2
theorem sc_Meter_take : FnScope ["self", "moment", "cost"] ["self", "moment", "cost"] (C8.fnScope s_Meter_take) := C8.fnScope_by (by decide +kernel)
abbrev s_Meter_kept : Stmt := inClass (top 12) 3
theorem sc_Meter_kept : FnScope ["self"] ["self"] (C8.fnScope s_Meter_kept) := C8.fnScope_by (by decide +kernel)
abbrev s_JarMeter_init : Stmt := inClass (top 13) 0
theorem sc_JarMeter_init : FnScope ["self", "size", "flow"] ["self", "size", "flow"] (C8.fnScope s_JarMeter_init) := C8.fnScope_by (by decide +kernel)
abbrev s_JarMeter_can : Stmt := inClass (top 13) 1
theorem sc_JarMeter_can : FnScope ["self", "moment", "cost"] ["self", "moment", "cost"] (C8.fnScope s_JarMeter_can) := C8.fnScope_by (by decide +kernel)
abbrev s_JarMeter_wait : Stmt := inClass (top 13) 2
theorem sc_JarMeter_wait : FnScope ["self", "moment", "cost", "excess"] ["self", "moment", "cost"] (C8.fnScope s_JarMeter_wait) := C8.fnScope_by (by decide +kernel)
abbrev s_JarMeter_take : Stmt := inClass (top 13) 3
theorem sc_JarMeter_take : FnScope ["self", "moment", "cost"] ["self", "moment", "cost"] (C8.fnScope s_JarMeter_take) := C8.fnScope_by (by decide +kernel)
abbrev s_JarMeter_kept : Stmt := inClass (top 13) 4
theorem sc_JarMeter_kept : FnScope ["self"] ["self"] (C8.fnScope s_JarMeter_kept) := C8.fnScope_by (by decide +kernel)
abbrev s_JarMeter__level_at : Stmt := inClass (top 13) 5
theorem sc_JarMeter__level_at : FnScope ["self", "moment"] ["self", "moment"] (C8.fnScope s_JarMeter__level_at) := C8.fnScope_by (by decide +kernel)
abbrev s_WindowMeter_init : Stmt := inClass (top 14) 0
theorem sc_WindowMeter_init : FnScope ["self", "most", "span"] ["self", "most", "span"] (C8.fnScope s_WindowMeter_init) := C8.fnScope_by (by decide +kernel)
abbrev s_WindowMeter_can : Stmt := inClass (top 14) 1
theorem sc_WindowMeter_can : FnScope ["self", "moment", "cost"] ["self", "moment", "cost"] (C8.fnScope s_WindowMeter_can) := C8.fnScope_by (by decide +kernel)
abbrev s_WindowMeter_wait : Stmt := inClass (top 14) 2
theorem sc_WindowMeter_wait : FnScope ["self", "moment", "cost", "due", "last_due"] ["self", "moment", "cost"] (C8.fnScope s_WindowMeter_wait) := C8.fnScope_by (by decide +kernel)
abbrev s_WindowMeter_take : Stmt := inClass (top 14) 3
theorem sc_WindowMeter_take : FnScope ["self", "moment", "cost"] ["self", "moment", "cost"] (C8.fnScope s_WindowMeter_take) := C8.fnScope_by (by decide +kernel)
abbrev s_WindowMeter_kept : Stmt := inClass (top 14) 4
theorem sc_WindowMeter_kept : FnScope ["self"] ["self"] (C8.fnScope s_WindowMeter_kept) := C8.fnScope_by (by decide +kernel)
abbrev s_WindowMeter__forget : Stmt := inClass (top 14) 5
theorem sc_WindowMeter__forget : FnScope ["self", "moment", "many"] ["self", "moment"] (C8.fnScope s_WindowMeter__forget) := C8.fnScope_by (by decide +kernel)
abbrev s_new_meters : Stmt := top 15
theorem sc_new_meters : FnScope ["bounds", "bound"] ["bounds"] (C8.fnScope s_new_meters) := C8.fnScope_by (by decide +kernel)
abbrev s_wait_for_all : Stmt := top 16
theorem sc_wait_for_all : FnScope ["meters", "moment", "cost", "longest", "meter", "wait"] ["meters", "moment", "cost"] (C8.fnScope s_wait_for_all) := C8.fnScope_by (by decide +kernel)
abbrev s_take_by_all : Stmt := top 17
theorem sc_take_by_all : FnScope ["meters", "moment", "cost", "meter"] ["meters", "moment", "cost"] (C8.fnScope s_take_by_all) := C8.fnScope_by (by decide +kernel)
abbrev s_place_reaching : Stmt := top 18
theorem sc_place_reaching : FnScope ["rows", "total", "low", "high", "middle"] ["rows", "total"] (C8.fnScope s_place_reaching) := C8.fnScope_by (by decide +kernel)
abbrev s_Bound_room : Stmt := inClass (top 24) 0
theorem sc_Bound_room : FnScope ["self", "first", "last"] ["self", "first", "last"] (C8.fnScope s_Bound_room) := C8.fnScope_by (by decide +kernel)
abbrev s_Bound_meter : Stmt := inClass (top 24) 1
theorem sc_Bound_meter : FnScope ["self"] ["self"] (C8.fnScope s_Bound_meter) := C8.fnScope_by (by decide +kernel)
abbrev s_Jar_init : Stmt := inClass (top 25) 0
theorem sc_Jar_init : FnScope ["self", "size", "flow"] ["self", "size", "flow"] (C8.fnScope s_Jar_init) := C8.fnScope_by (by decide +kernel)
abbrev s_Jar_size : Stmt := inClass (top 25) 1
theorem sc_Jar_size : FnScope ["self"] ["self"] (C8.fnScope s_Jar_size) := C8.fnScope_by (by decide +kernel)
abbrev s_Jar_flow : Stmt := inClass (top 25) 2
theorem sc_Jar_flow : FnScope ["self"] ["self"] (C8.fnScope s_Jar_flow) := C8.fnScope_by (by decide +kernel)
abbrev s_Jar_room : Stmt := inClass (top 25) 3
theorem sc_Jar_room : FnScope ["self", "first", "last"] ["self", "first", "last"] (C8.fnScope s_Jar_room) := C8.fnScope_by (by decide +kernel)
abbrev s_Jar_meter : Stmt := inClass (top 25) 4
theorem sc_Jar_meter : FnScope ["self"] ["self"] (C8.fnScope s_Jar_meter) := C8.fnScope_by (by decide +kernel)
abbrev s_Window_init : Stmt := inClass (top 26) 0
theorem sc_Window_init : FnScope ["self", "most", "span"] ["self", "most", "span"] (C8.fnScope s_Window_init) := C8.fnScope_by (by decide +kernel)
abbrev s_Window_most : Stmt := inClass (top 26) 1
theorem sc_Window_most : FnScope ["self"] ["self"] (C8.fnScope s_Window_most) := C8.fnScope_by (by decide +kernel)
abbrev s_Window_span : Stmt := inClass (top 26) 2
theorem sc_Window_span : FnScope ["self"] ["self"] (C8.fnScope s_Window_span) := C8.fnScope_by (by decide +kernel)
abbrev s_Window_room : Stmt := inClass (top 26) 3
theorem sc_Window_room : FnScope ["self", "first", "last"] ["self", "first", "last"] (C8.fnScope s_Window_room) := C8.fnScope_by (by decide +kernel)
abbrev s_Window_meter : Stmt := inClass (top 26) 4
theorem sc_Window_meter : FnScope ["self"] ["self"] (C8.fnScope s_Window_meter) := C8.fnScope_by (by decide +kernel)
abbrev s_check_bound : Stmt := top 31
theorem sc_check_bound : FnScope ["bound"] ["bound"] (C8.fnScope s_check_bound) := C8.fnScope_by (by decide +kernel)
abbrev s_copied_bounds : Stmt := top 32
theorem sc_copied_bounds : FnScope ["bounds", "bound"] ["bounds"] (C8.fnScope s_copied_bounds) := C8.fnScope_by (by decide +kernel)
abbrev s_check_moment : Stmt := top 33
theorem sc_check_moment : FnScope ["moment"] ["moment"] (C8.fnScope s_check_moment) := C8.fnScope_by (by decide +kernel)
abbrev s_check_cost : Stmt := top 34
theorem sc_check_cost : FnScope ["cost"] ["cost"] (C8.fnScope s_check_cost) := C8.fnScope_by (by decide +kernel)
abbrev s_broken : Stmt := top 36
theorem sc_broken : FnScope ["bound", "visits", "excess", "first", "last", "moments", "totals", "moment", "_"] ["bound", "visits"] (C8.fnScope s_broken) := C8.fnScope_by (by decide +kernel)
abbrev s_broken_excess : Stmt := (C8.fnBody (top 36)).getD 2 (.Pass ⟨0, 0, 0, 0⟩)
theorem sc_broken_excess : NdefX.NScope ["start", "end", "bound", "moments", "totals", "room"] ["start", "end"] ["bound", "moments", "totals"] (C8.fnScope s_broken_excess) := NdefX.nscope_by (by decide +kernel)
abbrev s_totals_ahead : Stmt := top 37
theorem sc_totals_ahead : FnScope ["visits", "totals", "_", "cost"] ["visits"] (C8.fnScope s_totals_ahead) := C8.fnScope_by (by decide +kernel)
abbrev s_first_start : Stmt := top 38
theorem sc_first_start : FnScope ["many", "excess", "found", "end", "start"] ["many", "excess"] (C8.fnScope s_first_start) := C8.fnScope_by (by decide +kernel)
abbrev s_Book_init : Stmt := inClass (top 41) 0
theorem sc_Book_init : FnScope ["self", "bounds"] ["self", "bounds"] (C8.fnScope s_Book_init) := C8.fnScope_by (by decide +kernel)
abbrev s_Book_visits : Stmt := inClass (top 41) 1
theorem sc_Book_visits : FnScope ["self"] ["self"] (C8.fnScope s_Book_visits) := C8.fnScope_by (by decide +kernel)
abbrev s_Book_put : Stmt := inClass (top 41) 2
theorem sc_Book_put : FnScope ["self", "moment", "cost", "row", "k", "bound"] ["self", "moment", "cost"] (C8.fnScope s_Book_put) := C8.fnScope_by (by decide +kernel)
abbrev s_Book_drop : Stmt := inClass (top 41) 3
theorem sc_Book_drop : FnScope ["self", "moment", "cost"] ["self", "moment", "cost"] (C8.fnScope s_Book_drop) := C8.fnScope_by (by decide +kernel)
abbrev s_Book_change : Stmt := inClass (top 41) 4
theorem sc_Book_change : FnScope ["self", "k", "bound"] ["self", "k", "bound"] (C8.fnScope s_Book_change) := C8.fnScope_by (by decide +kernel)
abbrev s_Book_earliest : Stmt := inClass (top 41) 5
theorem sc_Book_earliest : FnScope ["self", "moment", "cost", "meters", "at", "place", "wait"] ["self", "moment", "cost"] (C8.fnScope s_Book_earliest) := C8.fnScope_by (by decide +kernel)
abbrev s_Book__take_up_to : Stmt := inClass (top 41) 6
theorem sc_Book__take_up_to : FnScope ["self", "meters", "place", "moment"] ["self", "meters", "place", "moment"] (C8.fnScope s_Book__take_up_to) := C8.fnScope_by (by decide +kernel)
abbrev s_Book__is_kept_with : Stmt := inClass (top 41) 7
theorem sc_Book__is_kept_with : FnScope ["self", "moment", "cost", "row", "bound"] ["self", "moment", "cost"] (C8.fnScope s_Book__is_kept_with) := C8.fnScope_by (by decide +kernel)
abbrev s_row_with : Stmt := top 42
theorem sc_row_with : FnScope ["row", "moment", "cost", "place"] ["row", "moment", "cost"] (C8.fnScope s_row_with) := C8.fnScope_by (by decide +kernel)
abbrev s_check_keeps : Stmt := top 43
theorem sc_check_keeps : FnScope ["k", "bound", "row", "stretch"] ["k", "bound", "row"] (C8.fnScope s_check_keeps) := C8.fnScope_by (by decide +kernel)
abbrev s_Lcell : Stmt := top 45
theorem sc_Lcell : FnScope ["_law_script", "_law_k", "_law_cell_here", "_law_more"] ["_law_script", "_law_k"] (C8.fnScope s_Lcell) := C8.fnScope_by (by decide +kernel)
abbrev s_Lbound : Stmt := top 46
theorem sc_Lbound : FnScope ["_law_cell_here", "_law_scale_here", "_law_flow"] ["_law_cell_here", "_law_scale_here"] (C8.fnScope s_Lbound) := C8.fnScope_by (by decide +kernel)
abbrev s_Lmade : Stmt := top 47
theorem sc_Lmade : FnScope ["_law_bound_here"] ["_law_bound_here"] (C8.fnScope s_Lmade) := C8.fnScope_by (by decide +kernel)
abbrev s_Lroom : Stmt := top 48
theorem sc_Lroom : FnScope ["_law_bound_here", "_law_first_here", "_law_last"] ["_law_bound_here", "_law_first_here", "_law_last"] (C8.fnScope s_Lroom) := C8.fnScope_by (by decide +kernel)
abbrev s_Lfirst : Stmt := top 49
theorem sc_Lfirst : FnScope ["_law_bound_here", "_law_visits", "_law_at", "_law_used", "_law_end", "_law_last", "_law_room_here"] ["_law_bound_here", "_law_visits"] (C8.fnScope s_Lfirst) := C8.fnScope_by (by decide +kernel)
abbrev s_Lbreaks : Stmt := top 50
theorem sc_Lbreaks : FnScope ["_law_bounds", "_law_visits", "_law_k", "_law_stretch"] ["_law_bounds", "_law_visits"] (C8.fnScope s_Lbreaks) := C8.fnScope_by (by decide +kernel)
abbrev s_Lwith : Stmt := top 51
theorem sc_Lwith : FnScope ["_law_visits", "_law_moment", "_law_cost_here", "_law_ahead", "_law_one"] ["_law_visits", "_law_moment", "_law_cost_here"] (C8.fnScope s_Lwith) := C8.fnScope_by (by decide +kernel)
abbrev s_Lgap : Stmt := top 52
theorem sc_Lgap : FnScope ["_law_cell_here"] ["_law_cell_here"] (C8.fnScope s_Lgap) := C8.fnScope_by (by decide +kernel)
abbrev s_Lcost : Stmt := top 53
theorem sc_Lcost : FnScope ["_law_cell_here", "_law_scale_here", "_law_many"] ["_law_cell_here", "_law_scale_here"] (C8.fnScope s_Lcost) := C8.fnScope_by (by decide +kernel)
abbrev s_Lscale : Stmt := top 54
theorem sc_Lscale : FnScope ["_law_cell_here"] ["_law_cell_here"] (C8.fnScope s_Lscale) := C8.fnScope_by (by decide +kernel)
abbrev s_Lbegins : Stmt := top 55
theorem sc_Lbegins : FnScope ["_law_bounds", "_law_visits", "_law_moment", "_law_cost_here", "_law_found", "_law_k", "_law_used", "_law_end", "_law_bound_here", "_law_one"] ["_law_bounds", "_law_visits", "_law_moment", "_law_cost_here"] (C8.fnScope s_Lbegins) := C8.fnScope_by (by decide +kernel)
abbrev s_Learliest : Stmt := top 56
theorem sc_Learliest : FnScope ["_law_bounds", "_law_visits", "_law_moment", "_law_cost_here", "_law_there"] ["_law_bounds", "_law_visits", "_law_moment", "_law_cost_here"] (C8.fnScope s_Learliest) := C8.fnScope_by (by decide +kernel)
abbrev s_Lone_by_one : Stmt := top 57
theorem sc_Lone_by_one : FnScope ["_law_bounds", "_law_visits", "_law_moment", "_law_cost_here", "_law_last", "_law_there", "_law_one"] ["_law_bounds", "_law_visits", "_law_moment", "_law_cost_here"] (C8.fnScope s_Lone_by_one) := C8.fnScope_by (by decide +kernel)
abbrev s_Lasked : Stmt := top 58
theorem sc_Lasked : FnScope ["_law_book", "_law_bounds", "_law_visits", "_law_moment", "_law_cost_here", "_law_due", "_law_found"] ["_law_book", "_law_bounds", "_law_visits", "_law_moment", "_law_cost_here"] (C8.fnScope s_Lasked) := C8.fnScope_by (by decide +kernel)
abbrev s_Lput : Stmt := top 59
theorem sc_Lput : FnScope ["_law_book", "_law_moment", "_law_cost_here", "_law_error", "e"] ["_law_book", "_law_moment", "_law_cost_here"] (C8.fnScope s_Lput) := C8.fnScope_by (by decide +kernel)
abbrev s_Lwide : Stmt := top 60
theorem sc_Lwide : FnScope ["_law_bound_here", "_law_cell_here"] ["_law_bound_here", "_law_cell_here"] (C8.fnScope s_Lwide) := C8.fnScope_by (by decide +kernel)
abbrev s_Lchanged : Stmt := top 61
theorem sc_Lchanged : FnScope ["_law_book", "_law_bounds", "_law_visits", "_law_cell_here", "_law_scale_here", "_law_bound_here", "_law_at"] ["_law_book", "_law_bounds", "_law_visits", "_law_cell_here", "_law_scale_here"] (C8.fnScope s_Lchanged) := C8.fnScope_by (by decide +kernel)
abbrev s_Lends : Stmt := top 62
theorem sc_Lends : FnScope ["_law_begin", "_law_empty", "_law_full", "_law_k"] ["_law_begin"] (C8.fnScope s_Lends) := C8.fnScope_by (by decide +kernel)
abbrev s_law : Stmt := top 63
theorem sc_law : FnScope ["_law_script", "_law_small", "_law_scale_here", "_law_k", "_law_bounds", "_law_book", "_law_begin", "_law_visits", "_law_cell_here", "_law_moment", "_law_cost_here", "_law_more", "_law_at", "_law_found", "_law_bound_here"] ["_law_script"] (C8.fnScope s_law) := C8.fnScope_by (by decide +kernel)
/-- what the top has left of the built-ins; its numbers -/
structure Blt (mg : Str → Option Value) : Prop where
  b_len : mg "len" = none
  b_range : mg "range" = none
  b_max : mg "max" = none
  b_min : mg "min" = none
  b_int : mg "int" = none
  b_bool : mg "bool" = none
  b_tuple : mg "tuple" = none
  b_list : mg "list" = none
  b_isinstance : mg "isinstance" = none
  b_enumerate : mg "enumerate" = none
  b_super : mg "super" = none
  b_reversed : mg "reversed" = none
  b_all : mg "all" = none
  b_sorted : mg "sorted" = none
  b_set : mg "set" = none
structure Cst (mg : Str → Option Value) : Prop where
  g_LARGEST_SIZE : ∃ u, mg "LARGEST_SIZE" = some u ∧ RelV (.int 1000000000000000) u
  g_LARGEST_FLOW : ∃ u, mg "LARGEST_FLOW" = some u ∧ RelV (.int 1000000000) u
  g_LARGEST_MOST : ∃ u, mg "LARGEST_MOST" = some u ∧ RelV (.int 1000000000000000) u
  g_LARGEST_SPAN : ∃ u, mg "LARGEST_SPAN" = some u ∧ RelV (.int 1000000000000) u
  g_MOST_BOUNDS : ∃ u, mg "MOST_BOUNDS" = some u ∧ RelV (.int 4) u
  g_LARGEST_MOMENT : ∃ u, mg "LARGEST_MOMENT" = some u ∧ RelV (.int 1000000000000) u
  g_LARGEST_COST : ∃ u, mg "LARGEST_COST" = some u ∧ RelV (.int 1000000000) u
  g_MOST_VISITS : ∃ u, mg "MOST_VISITS" = some u ∧ RelV (.int 40) u
/-! data compared -/
theorem dp_ints {K : PySem.W.Frag} {H : Hp} : ∀ ns : List Int, DpAll K H (ns.map V.int) (ns.map PyData.int)
  | [] => .nil
  | n :: ns => .cons (.int n) (dp_ints ns)
theorem lay_ints : ∀ ns : List Int, PyData.canLayAll0 (ns.map PyData.int) = true
  | [] => by simp only [List.map_nil, PyData.canLayAll0]
  | n :: ns => by simp only [List.map_cons, PyData.canLayAll0, PyData.canLay0, lay_ints ns, Bool.and_self]
theorem dep_ints : ∀ ns : List Int, PyData.depthAll (ns.map PyData.int) = 0
  | [] => by simp only [List.map_nil, PyData.depthAll]
  | n :: ns => by simp only [List.map_cons, PyData.depthAll, PyData.depth, dep_ints ns, Nat.max_self]
theorem shaped_list {ds : List PyData} (h : PyData.canLayAll0 ds = true) (hd : PyData.depthAll ds ≤ 60) : PySem.SeqAt.shaped (.list ds) = true := by
  unfold PySem.SeqAt.shaped
  rw [Bool.and_eq_true, decide_eq_true_eq]
  refine ⟨by simp only [PyData.canLay0, h], ?_⟩
  simp only [PyData.depth]
  omega
theorem shaped_tuple {ds : List PyData} (h : PyData.canLayAll0 ds = true) (hd : PyData.depthAll ds ≤ 60) : PySem.SeqAt.shaped (.tuple ds) = true := by
  unfold PySem.SeqAt.shaped
  rw [Bool.and_eq_true, decide_eq_true_eq]
  refine ⟨by simp only [PyData.canLay0, h], ?_⟩
  simp only [PyData.depth]
  omega
theorem shaped_ints (ns : List Int) : PySem.SeqAt.shaped (.list (ns.map PyData.int)) = true := shaped_list (lay_ints ns) (by rw [dep_ints]; omega)
theorem shaped_tints (ns : List Int) : PySem.SeqAt.shaped (.tuple (ns.map PyData.int)) = true := shaped_tuple (lay_ints ns) (by rw [dep_ints]; omega)
theorem eqvAll_ints : ∀ ns ms : List Int, PyData.eqvAll (ns.map PyData.int) (ms.map PyData.int) = decide (ns = ms)
  | [], [] => by simp [PyData.eqvAll]
  | [], m :: ms => by simp [PyData.eqvAll]
  | n :: ns, [] => by simp [PyData.eqvAll]
  | n :: ns, m :: ms => by
    simp only [List.map_cons, PyData.eqvAll, PyData.eqv, eqvAll_ints ns ms, List.cons.injEq, Bool.decide_and]
    congr 1
theorem eqv_ints (ns ms : List Int) : PyData.eqv (.list (ns.map PyData.int)) (.list (ms.map PyData.int)) = decide (ns = ms) := by
  simp only [PyData.eqv, eqvAll_ints]
theorem eqv_tints (ns ms : List Int) : PyData.eqv (.tuple (ns.map PyData.int)) (.tuple (ms.map PyData.int)) = decide (ns = ms) := by
  simp only [PyData.eqv, eqvAll_ints]
/-- xs != [] -/
theorem ev_neNil {K : PySem.W.Frag} {σ : L2.St} {H : Hp} {ta : TE} {a : Addr} {ns : List Int} (ha : Ev ta σ H (.ref a)) (hx : SqL K H a (ns.map V.int)) : Ev (tOp (rNeD K) ta (tLst tNil)) σ H (.bl (!decide (ns = []))) :=
  ev_opL (xs := []) ha (el_lst ea_nil (by decide)) fun p H1 hp e => by
    rw [← eqv_ints ns []]
    exact rv_neD (fun H2 e2 => .lst (ex_l (e.trans e2) hx) (dp_ints ns)) (fun H2 e2 => .lst (sq_of (e2 p _ hp)) .nil) (shaped_ints ns) (shaped_ints [])
theorem atI_ints {ns : List Int} {i : Int} (h0 : 0 ≤ i) (h1 : i < (ns.length : Int)) : atI (ns.map V.int) i = some (.int (ns.getD i.toNat 0)) := by
  obtain ⟨j, rfl⟩ : ∃ j : Nat, i = (j : Int) := ⟨i.toNat, by omega⟩
  have hj : j < ns.length := by omega
  refine atI_nat ?_
  rw [List.getElem?_map, Int.toNat_natCast, List.getD_eq_getElem?_getD, List.getElem?_eq_getElem hj]
  rfl
/-! items of displays of numbers -/
inductive Ints : List V → List Int → Prop
  | nil : Ints [] []
  | cons {i : Int} {vs : List V} {ns : List Int} : Ints vs ns → Ints (.int i :: vs) (i :: ns)
theorem Ints.map {vs : List V} {ns : List Int} (h : Ints vs ns) : vs = ns.map V.int := by
  induction h with
  | nil => rfl
  | cons _ ih => rw [ih]; rfl
theorem atI_disp {vs : List V} {ns : List Int} {i : Int} (h : Ints vs ns) (h0 : 0 ≤ i) (h1 : i < (ns.length : Int)) : atI vs i = some (.int (ns.getD i.toNat 0)) := by
  rw [h.map]
  exact atI_ints h0 h1
theorem getD_in {lo hi : Int} : ∀ (l : List Int) (n : Nat), (∀ x ∈ l, lo ≤ x ∧ x ≤ hi) → n < l.length → lo ≤ l.getD n 0 ∧ l.getD n 0 ≤ hi
  | [], _, _, h => absurd h (Nat.not_lt_zero _)
  | x :: _, 0, h, _ => h x List.mem_cons_self
  | _ :: l, n + 1, h, hn => getD_in l n (fun x hx => h x (List.mem_cons_of_mem _ hx)) (Nat.lt_of_succ_lt_succ hn)
def opV : Option Int → V
  | none => .non
  | some i => .int i
local macro_rules | `(tactic| walk_at "tk_lok") => `(tactic| first | (simp only [List.length_cons, List.length_nil]; omega) | (simp only [List.length_cons, List.length_nil, List.length_append, List.length_map]; omega))
local macro_rules | `(tactic| walk_at "tk_at") => `(tactic| fail "tk_at")
local macro_rules | `(tactic| walk_at "tk_at") => `(tactic| exact rfl)
local macro_rules | `(tactic| walk_at "tk_at") => `(tactic| (refine atI_ints ?_ ?_ <;> omega))
local macro_rules | `(tactic| walk_at "tk_at") => `(tactic| (apply atI_disp; (repeat (first | exact Ints.nil | apply Ints.cons)); omega; (simp only [List.length_cons, List.length_nil]; omega)))
local macro_rules | `(tactic| walk_at "tk_len") => `(tactic| (with_reducible apply ev_lenL))
local macro_rules | `(tactic| walk_at "tk_R") => `(tactic| fail "tk_R")
local macro_rules | `(tactic| walk_at "tk_om") => `(tactic| first | omega | (simp only [List.length_map]; omega))
local macro_rules | `(tactic| walk_at "tk_ev") => `(tactic| repeat' (first
  | exact ev_c
  | (with_reducible apply rt_ret)
  | (with_reducible exact rt_retN)
  | (with_reducible apply rt_ifseq)
  | (with_reducible apply rt_seq)
  | (with_reducible apply nx_asg)
  | (with_reducible exact nx_next)
  | (with_reducible apply nx_drop)
  | (with_reducible apply rt_if)
  | (with_reducible apply rtw_ret)
  | (with_reducible apply rtw_seq)
  | ((with_reducible apply ev_var); exact rfl)
  | (with_reducible apply ev_max)
  | (with_reducible apply ev_min)
  | (with_reducible apply ev_intB)
  | (with_reducible apply ev_isN)
  | (with_reducible apply ev_notN)
  | (with_reducible apply ev_if)
  | (with_reducible apply ev_andV)
  | (with_reducible apply ev_orV)
  | (with_reducible apply ev_notV)
  | (with_reducible apply ev_chain)
  | ((with_reducible apply ev_lenI); (with_reducible apply ev_var); exact rfl; assumption)
  | walk_at "tk_len"
  | (with_reducible apply ev_fld)
  | (with_reducible apply ev_pair0)
  | (with_reducible apply ev_pair1)
  | (with_reducible apply ev_ixN)
  | (with_reducible apply ev_ixL)
  | (with_reducible apply ev_ixT)
  | (with_reducible apply ev_methF)
  | (with_reducible apply ev_callF)
  | ((with_reducible show ∀ _, Ex _ _ → _); walk_at "tk_R")
  | (with_reducible apply ev_op)
  | (with_reducible apply ev_un)
  | exact rv_I0
  | ((with_reducible show RV (rI _ _) _ _ _ _); apply rv_I)
  | exact rv_eq rfl
  | exact rv_ne rfl
  | exact ru_neg
  | (with_reducible apply et_test)
  | (with_reducible apply et_B)
  | (with_reducible apply et_and)
  | (with_reducible apply et_or)
  | (with_reducible apply et_not)
  | exact ea_nil
  | (with_reducible apply ea_cons)
  | (with_reducible apply eu_tup)
  | (with_reducible apply el_lst)
  | ((with_reducible show SqL _ _ _ _); assumption)
  | ((with_reducible show PairsT _ _ _); assumption)
  | ((with_reducible show Cls _ _); assumption)
  | ((with_reducible show NoAttr _ _ _); assumption)
  | ((with_reducible show _ = some (HO.ins _ _ _)); assumption)
  | ((with_reducible show List.lookup _ _ = some _); exact rfl)
  | ((with_reducible show List.lookup _ _ = none); exact rfl)
  | ((with_reducible show _[_]? = some _); exact getD_some (by walk_at "tk_om"))
  | ((with_reducible show (0 : Int) ≤ _); walk_at "tk_om")
  | ((with_reducible show SqT _ _ _ _); assumption)
  | ((with_reducible show atI _ _ = some _); walk_at "tk_at")
  | ((with_reducible show CMul _ _); first | (exact .inl (by decide)) | (exact .inr (by decide)) | (exact .inl (by omega)) | (exact .inr (by omega)))
  | ((with_reducible show CDiv _ _); first | (exact ⟨by decide, by decide⟩) | (exact ⟨by walk_at "tk_om", by walk_at "tk_om"⟩))
  | ((with_reducible show CPow _ _); exact ⟨by decide, by decide, by decide⟩)
  | ((with_reducible show _ ≤ 100000); first | decide | (simp only [List.length_cons, List.length_nil]; omega))
  | ((with_reducible show (0 : Int) < _); first | decide | walk_at "tk_om")
  | ((with_reducible show (_ = true → _)); intro)
  | ((with_reducible show (_ = false → _)); intro)))
/-! what a bound tells -/
inductive Bd
  | jar (size flow : Int)
  | win (most span : Int)
def Bd.cap : Bd → Int
  | .jar s _ => s
  | .win m _ => m
def Bd.two : Bd → Int
  | .jar _ f => f
  | .win _ s => s
def Bd.tup : Bd → List V
  | .jar s f => [.str "jar", .int s, .int f]
  | .win m s => [.str "window", .int m, .int s]
/-! a drawn number of the script's -/
def mixV (c k : Int) : Int := (c % 2147483647 * (c % 2147483647) % 2147483629 * (c % 2147483647 * (c % 2147483647) % 2147483629) + 69621 * (c % 2147483647 * (c % 2147483647) % 2147483629) + k) % 2147483587
def cellV (ns : List Int) (k : Int) : Int := mixV (if ns = [] then 7919 * k + 11 else 7919 * k + 11 + ns.getD (k % (ns.length : Int)).toNat 0 * 48271 + 96810 * k + k / (ns.length : Int) * 7919) k
theorem cellV_nn (ns : List Int) (k : Int) : 0 ≤ cellV ns k := Int.emod_nonneg _ (by decide)
theorem cellV_lt (ns : List Int) (k : Int) : cellV ns k < 2147483587 := Int.emod_lt_of_pos _ (by decide)
def RCell (K : PySem.W.Frag) (vs : List V) (H : Hp) (v : V) : Prop := ∃ (a : Addr) (ns : List Int) (k : Int), vs = [.ref a, .int k] ∧ SqL K H a (ns.map V.int) ∧ ns.length ≤ 63 ∧ 0 ≤ k ∧ v = .int (cellV ns k)
section
variable {P : Program} {w : World} {K : PySem.W.Frag} {mg : Str → Option Value} {base : Heap}
theorem cal_Lcell {f : Addr} {fd : FuncData} (T : Blt mg) (F : C8.Def K mg "_law_cell" s_Lcell f fd) (b : Binds K fd ["_law_script", "_law_k"] []) : C8.Cal P w K mg base 1 "_law_cell" (spF (RCell K)) [] := by
  refine calF F b sc_Lcell (fun vs H v h => ?_) (fun cdv A outer s H vs v E hr h => ?_)
  · obtain ⟨a, ns, k, rfl, _⟩ := h
    rfl
  · obtain ⟨a, ns, k, rfl, hS, hl, hk, rfl⟩ := h
    refine ⟨_, (pss_cons (ps_set (i := 2) sc_Lcell.nd rfl (Or.inl rfl) (pe_op op_add (pe_op op_mul pe_int (pv 1)) pe_int))
  (pss_cons (ps_if (pt_cmpR (op_neD hr.units) (pv 0) (pe_lst pa_nil) (nomark _))
    (pss_cons (ps_set (i := 2) sc_Lcell.nd rfl (Or.inl rfl) (pe_op op_add (pe_op op_add (pv 2) (pe_op op_mul (pe_ix ix_list (pv 0) (pe_op op_mod (pv 1) (pe_callB call_len_seq (by rfl) T.b_len boot_len (pa_cons (pv 0) pa_nil))) (fun _ _ => rfl)) pe_int)) (pe_op op_mul pe_int (pv 1))))
    (pss_one (ps_set (i := 2) sc_Lcell.nd rfl (Or.inl rfl) (pe_op op_add (pv 2) (pe_op op_mul (pe_op op_fdiv (pv 1) (pe_callB call_len_seq (by rfl) T.b_len boot_len (pa_cons (pv 0) pa_nil))) pe_int)))))
    pss_nil)
  (pss_cons (ps_set (i := 3) sc_Lcell.nd rfl (Or.inl rfl) (pe_op op_mod (pv 2) pe_int))
  (pss_cons (ps_set (i := 3) sc_Lcell.nd rfl (Or.inl rfl) (pe_op op_mod (pe_op op_mul (pv 3) (pv 3)) pe_int))
  (pss_one (ps_ret (pe_op op_mod (pe_op op_add (pe_op op_add (pe_op op_mul (pv 3) (pv 3)) (pe_op op_mul pe_int (pv 3))) (pv 1)) pe_int))))))), ?_⟩
    have m1 : ∀ c : Int, 0 ≤ c % 2147483647 ∧ c % 2147483647 < 2147483647 := fun c => ⟨Int.emod_nonneg _ (by decide), Int.emod_lt_of_pos _ (by decide)⟩
    have m2 : ∀ c : Int, 0 ≤ c % 2147483629 ∧ c % 2147483629 < 2147483629 := fun c => ⟨Int.emod_nonneg _ (by decide), Int.emod_lt_of_pos _ (by decide)⟩
    refine rt_seq (nx_asg (v := .int (7919 * k + 11)) (by walk_at "tk_ev")) ?_
    refine rt_seq (σ' := [some (.ref a), some (.int k), some (.int (if ns = [] then 7919 * k + 11 else 7919 * k + 11 + ns.getD (k % (ns.length : Int)).toNat 0 * 48271 + 96810 * k + k / (ns.length : Int) * 7919)), none]) (nx_if (et_test (ev_neNil (ev_var rfl) hS)) (fun hb => ?_) (fun hb => ?_)) ?_
    · have hne : ns ≠ [] := by simpa using hb
      rw [if_neg hne]
      have hp : 0 < (ns.length : Int) := by
        have := List.length_pos_iff.mpr hne
        omega
      have q0 : 0 ≤ k % (ns.length : Int) := Int.emod_nonneg _ (by omega)
      have q1 : k % (ns.length : Int) < (ns.length : Int) := Int.emod_lt_of_pos _ hp
      refine nx_seq (nx_asg (v := .int (7919 * k + 11 + ns.getD (k % (ns.length : Int)).toNat 0 * 48271 + 96810 * k)) ?_) (nx_asg (v := .int (7919 * k + 11 + ns.getD (k % (ns.length : Int)).toNat 0 * 48271 + 96810 * k + k / (ns.length : Int) * 7919)) ?_)
      · walk_at "tk_ev"
      · walk_at "tk_ev"
    · have hne : ns = [] := by simpa using hb
      rw [if_pos hne]
      exact nx_next
    · unfold cellV
      generalize (if ns = [] then 7919 * k + 11 else 7919 * k + 11 + ns.getD (k % (ns.length : Int)).toNat 0 * 48271 + 96810 * k + k / (ns.length : Int) * 7919) = c at *
      have c1 := m1 c
      have c2 := m2 (c % 2147483647 * (c % 2147483647))
      walk_at "tk_ev"
end
/-! the law's draws: a scale, a bound, a gap, a cost -/
def scaleV (c : Int) : Int := ([1, 1, 1000, 1000000, 40000000] : List Int).getD (c % 5).toNat 0
def boundV (c sc : Int) : Bd :=
  if c % 2 = 0 then .jar ((1 + c / 24 % 20) * sc) (min (([0, 1, 2, 3, 1, 2] : List Int).getD (c / 2 % 6).toNat 0 * ([1, sc] : List Int).getD (c / 12 % 2).toNat 0) 1000000000)
  else .win ((1 + c / 2 % 20) * sc + c / 40 % 2) (1 + c / 80 % ([6, 40] : List Int).getD (c / 3200 % 2).toNat 0)
def gapV (c : Int) : Int := ([0, 0, 1, 1, 2, 3, c / 10 % 9, c / 10 % 60, 0, c / 10 % 1000000] : List Int).getD (c % 10).toNat 0
def costV (c sc : Int) : Int := min 1000000000 (([1 + c % 6, 1, 1 + c / 3 % 20] : List Int).getD (c / 60 % 3).toNat 0 * sc + c / 180 % 2 * (sc / 2))
theorem scale_in (c : Int) : 1 ≤ scaleV c ∧ scaleV c ≤ 40000000 := getD_in _ _ (by decide) (by simp only [List.length_cons, List.length_nil]; omega)
theorem gap_in (c : Int) (h : 0 ≤ c) : 0 ≤ gapV c ∧ gapV c ≤ 1000000 := getD_in _ _ (by
  intro x hx
  simp only [List.mem_cons, List.not_mem_nil, or_false] at hx
  omega) (by simp only [List.length_cons, List.length_nil]; omega)
theorem cost_in {c sc : Int} (h : 0 ≤ c) (h1 : 1 ≤ sc) (h2 : sc ≤ 40000000) : 1 ≤ costV c sc ∧ costV c sc ≤ 1000000000 := by
  have z : 1 ≤ ([1 + c % 6, 1, 1 + c / 3 % 20] : List Int).getD (c / 60 % 3).toNat 0 ∧ ([1 + c % 6, 1, 1 + c / 3 % 20] : List Int).getD (c / 60 % 3).toNat 0 ≤ 20 := getD_in _ _ (by
    intro x hx
    simp only [List.mem_cons, List.not_mem_nil, or_false] at hx
    omega) (by simp only [List.length_cons, List.length_nil]; omega)
  unfold costV
  generalize ([1 + c % 6, 1, 1 + c / 3 % 20] : List Int).getD (c / 60 % 3).toNat 0 = m at z ⊢
  have a : 1 ≤ m * sc := by
    have := Int.mul_le_mul z.1 h1 (by decide) (by omega)
    omega
  have b : 0 ≤ c / 180 % 2 * (sc / 2) := Int.mul_nonneg (by omega) (by omega)
  omega
theorem bound_in {c sc : Int} (h : 0 ≤ c) (h1 : 1 ≤ sc) (h2 : sc ≤ 40000000) : 1 ≤ (boundV c sc).cap ∧ (boundV c sc).cap ≤ 1000000000 ∧ 0 ≤ (boundV c sc).two ∧ (boundV c sc).two ≤ 1000000000 ∧ (∀ m s, boundV c sc = .win m s → 1 ≤ s) := by
  have k : ∀ x : Int, 1 ≤ x → x ≤ 20 → 1 ≤ x * sc ∧ x * sc ≤ 800000000 := fun x a b => by
    have u := Int.mul_le_mul a h1 (by decide) (by omega)
    have w := Int.mul_le_mul b h2 (by omega) (by decide)
    omega
  unfold boundV
  by_cases hc : c % 2 = 0
  · rw [if_pos hc]
    have a := k (1 + c / 24 % 20) (by omega) (by omega)
    have d1 : 0 ≤ ([0, 1, 2, 3, 1, 2] : List Int).getD (c / 2 % 6).toNat 0 ∧ ([0, 1, 2, 3, 1, 2] : List Int).getD (c / 2 % 6).toNat 0 ≤ 3 := getD_in _ _ (by decide) (by simp only [List.length_cons, List.length_nil]; omega)
    have d2 : 1 ≤ ([1, sc] : List Int).getD (c / 12 % 2).toNat 0 ∧ ([1, sc] : List Int).getD (c / 12 % 2).toNat 0 ≤ 40000000 := getD_in _ _ (by
      intro x hx
      simp only [List.mem_cons, List.not_mem_nil, or_false] at hx
      omega) (by simp only [List.length_cons, List.length_nil]; omega)
    have d3 := Int.mul_nonneg d1.1 (show 0 ≤ ([1, sc] : List Int).getD (c / 12 % 2).toNat 0 by omega)
    exact ⟨a.1, Int.le_trans a.2 (by decide), by show 0 ≤ min _ _; omega, by show min _ _ ≤ _; omega, fun m s e => by cases e⟩
  · rw [if_neg hc]
    have a := k (1 + c / 2 % 20) (by omega) (by omega)
    have d1 : 6 ≤ ([6, 40] : List Int).getD (c / 3200 % 2).toNat 0 ∧ ([6, 40] : List Int).getD (c / 3200 % 2).toNat 0 ≤ 40 := getD_in _ _ (by decide) (by simp only [List.length_cons, List.length_nil]; omega)
    generalize ([6, 40] : List Int).getD (c / 3200 % 2).toNat 0 = q at d1 ⊢
    have e0 := Int.emod_nonneg (c / 80) (show q ≠ 0 by omega)
    have e1 := Int.emod_lt_of_pos (c / 80) (show 0 < q by omega)
    exact ⟨by show 1 ≤ (1 + c / 2 % 20) * sc + c / 40 % 2; omega, by show (1 + c / 2 % 20) * sc + c / 40 % 2 ≤ _; omega, by show 0 ≤ 1 + c / 80 % q; omega, by show 1 + c / 80 % q ≤ _; omega, fun m s e => by cases e; omega⟩
/-- of one number, of two -/
def R1 (D : Int → Prop) (f : Int → Int) (vs : List V) (_ : Hp) (v : V) : Prop := ∃ c, vs = [.int c] ∧ D c ∧ v = .int (f c)
def R2' (D : Int → Int → Prop) (f : Int → Int → Int) (vs : List V) (_ : Hp) (v : V) : Prop := ∃ c d, vs = [.int c, .int d] ∧ D c d ∧ v = .int (f c d)
def RBound (vs : List V) (_ : Hp) (W : V → Hp → Prop) : Prop := ∃ c sc, vs = [.int c, .int sc] ∧ 0 ≤ c ∧ 1 ≤ sc ∧ sc ≤ 40000000 ∧ W = fun v H1 => ∃ p, v = .ref p ∧ H1 p = some (.tup (boundV c sc).tup)
section
variable {P : Program} {w : World} {K : PySem.W.Frag} {mg : Str → Option Value} {base : Heap}
theorem cal_Lscale {f : Addr} {fd : FuncData} (F : C8.Def K mg "_law_scale" s_Lscale f fd) (b : Binds K fd ["_law_cell_here"] []) : C8.Cal P w K mg base 1 "_law_scale" (spF (R1 (fun c => 0 ≤ c) scaleV)) [] := by
  refine calF F b sc_Lscale (fun vs H v h => ?_) (fun cdv A outer s H vs v E hr h => ?_)
  · obtain ⟨c, rfl, _⟩ := h
    rfl
  · obtain ⟨c, rfl, hc, rfl⟩ := h
    refine ⟨_, (pss_one (ps_ret (pe_ix ix_list (pe_lst (pa_cons pe_int (pa_cons pe_int (pa_cons pe_int (pa_cons (pe_op op_pow pe_int pe_int) (pa_cons (pe_op op_mul pe_int (pe_op op_pow pe_int pe_int)) pa_nil)))))) (pe_op op_mod (pv 0) pe_int) (fun _ _ => rfl)))), ?_⟩
    unfold scaleV
    walk_at "tk_ev"
theorem cal_Lgap {f : Addr} {fd : FuncData} (F : C8.Def K mg "_law_gap" s_Lgap f fd) (b : Binds K fd ["_law_cell_here"] []) : C8.Cal P w K mg base 1 "_law_gap" (spF (R1 (fun c => 0 ≤ c) gapV)) [] := by
  refine calF F b sc_Lgap (fun vs H v h => ?_) (fun cdv A outer s H vs v E hr h => ?_)
  · obtain ⟨c, rfl, _⟩ := h
    rfl
  · obtain ⟨c, rfl, hc, rfl⟩ := h
    refine ⟨_, (pss_one (ps_ret (pe_ix ix_list (pe_lst (pa_cons pe_int (pa_cons pe_int (pa_cons pe_int (pa_cons pe_int (pa_cons pe_int (pa_cons pe_int (pa_cons (pe_op op_mod (pe_op op_fdiv (pv 0) pe_int) pe_int) (pa_cons (pe_op op_mod (pe_op op_fdiv (pv 0) pe_int) pe_int) (pa_cons pe_int (pa_cons (pe_op op_mod (pe_op op_fdiv (pv 0) pe_int) (pe_op op_pow pe_int pe_int)) pa_nil))))))))))) (pe_op op_mod (pv 0) pe_int) (fun _ _ => rfl)))), ?_⟩
    unfold gapV
    walk_at "tk_ev"
theorem cal_Lcost {f : Addr} {fd : FuncData} (T : Blt mg) (F : C8.Def K mg "_law_cost" s_Lcost f fd) (b : Binds K fd ["_law_cell_here", "_law_scale_here"] []) : C8.Cal P w K mg base 1 "_law_cost" (spF (R2' (fun c sc => 0 ≤ c ∧ 1 ≤ sc ∧ sc ≤ 40000000) costV)) [] := by
  refine calF F b sc_Lcost (fun vs H v h => ?_) (fun cdv A outer s H vs v E hr h => ?_)
  · obtain ⟨c, d, rfl, _⟩ := h
    rfl
  · obtain ⟨c, sc, rfl, hc, rfl⟩ := h
    refine ⟨_, (pss_cons (ps_set (i := 2) sc_Lcost.nd rfl (Or.inl rfl) (pe_ix ix_list (pe_lst (pa_cons (pe_op op_add pe_int (pe_op op_mod (pv 0) pe_int)) (pa_cons pe_int (pa_cons (pe_op op_add pe_int (pe_op op_mod (pe_op op_fdiv (pv 0) pe_int) pe_int)) pa_nil)))) (pe_op op_mod (pe_op op_fdiv (pv 0) pe_int) pe_int) (fun _ _ => rfl)))
  (pss_one (ps_ret (pe_callB (call_min2 rfl) (by rfl) T.b_min boot_min (pa_cons (pe_op op_pow pe_int pe_int) (pa_cons (pe_op op_add (pe_op op_mul (pv 2) (pv 1)) (pe_op op_mul (pe_op op_mod (pe_op op_fdiv (pv 0) pe_int) pe_int) (pe_op op_fdiv (pv 1) pe_int))) pa_nil)))))), ?_⟩
    unfold costV
    walk_at "tk_ev"
theorem cal_Lbound {f : Addr} {fd : FuncData} (T : Blt mg) (F : C8.Def K mg "_law_bound" s_Lbound f fd) (b : Binds K fd ["_law_cell_here", "_law_scale_here"] []) : C8.Cal P w K mg base 1 "_law_bound" (spW RBound) [] := by
  refine calW F b sc_Lbound (fun vs H v h => ?_) (fun cdv A outer s H vs W E hr h => ?_)
  · obtain ⟨c, d, rfl, _⟩ := h
    rfl
  · obtain ⟨c, sc, rfl, hc, h1, h2, rfl⟩ := h
    refine ⟨_, (pss_cons (ps_if (pt_cmpR op_eq (pe_op op_mod (pv 0) pe_int) pe_int (nomark _))
    (pss_cons (ps_set (i := 2) sc_Lbound.nd rfl (Or.inl rfl) (pe_op op_mul (pe_ix ix_list (pe_lst (pa_cons pe_int (pa_cons pe_int (pa_cons pe_int (pa_cons pe_int (pa_cons pe_int (pa_cons pe_int pa_nil))))))) (pe_op op_mod (pe_op op_fdiv (pv 0) pe_int) pe_int) (fun _ _ => rfl)) (pe_ix ix_list (pe_lst (pa_cons pe_int (pa_cons (pv 1) pa_nil))) (pe_op op_mod (pe_op op_fdiv (pv 0) pe_int) pe_int) (fun _ _ => rfl))))
    (pss_one (ps_ret (pe_tup (pa_cons pe_str (pa_cons (pe_op op_mul (pe_op op_add pe_int (pe_op op_mod (pe_op op_fdiv (pv 0) pe_int) pe_int)) (pv 1)) (pa_cons (pe_callB (call_min2 rfl) (by rfl) T.b_min boot_min (pa_cons (pv 2) (pa_cons (pe_op op_pow pe_int pe_int) pa_nil))) pa_nil)))))))
    pss_nil)
  (pss_one (ps_ret (pe_tup (pa_cons pe_str (pa_cons (pe_op op_add (pe_op op_mul (pe_op op_add pe_int (pe_op op_mod (pe_op op_fdiv (pv 0) pe_int) pe_int)) (pv 1)) (pe_op op_mod (pe_op op_fdiv (pv 0) pe_int) pe_int)) (pa_cons (pe_op op_add pe_int (pe_op op_mod (pe_op op_fdiv (pv 0) pe_int) (pe_ix ix_list (pe_lst (pa_cons pe_int (pa_cons pe_int pa_nil))) (pe_op op_mod (pe_op op_fdiv (pv 0) pe_int) pe_int) (fun _ _ => rfl)))) pa_nil))))))), ?_⟩
    have d2 : 1 ≤ ([1, sc] : List Int).getD (c / 12 % 2).toNat 0 ∧ ([1, sc] : List Int).getD (c / 12 % 2).toNat 0 ≤ 40000000 := getD_in _ _ (by
      intro x hx
      simp only [List.mem_cons, List.not_mem_nil, or_false] at hx
      omega) (by simp only [List.length_cons, List.length_nil]; omega)
    have d1 : 6 ≤ ([6, 40] : List Int).getD (c / 3200 % 2).toNat 0 ∧ ([6, 40] : List Int).getD (c / 3200 % 2).toNat 0 ≤ 40 := getD_in _ _ (by decide) (by simp only [List.length_cons, List.length_nil]; omega)
    apply rtw_ifseq
    · walk_at "tk_ev"
    · intro hb
      have hc2 : c % 2 = 0 := by simpa using hb
      simp only [boundV, if_pos hc2, Bd.tup]
      walk_at "tk_ev"
      apply evw_tup
      walk_at "tk_ev"
    · intro hb
      have hc2 : ¬ c % 2 = 0 := by simpa using hb
      simp only [boundV, if_neg hc2, Bd.tup]
      walk_at "tk_ev"
      apply evw_tup
      walk_at "tk_ev"
end
/-! the jar's meter -/
structure ClJM (K : PySem.W.Frag) (C : Addr) : Prop where
  cl : Cls K C
  n1 : NoAttr K C "_size"
  n2 : NoAttr K C "_flow"
  n3 : NoAttr K C "_level"
  n4 : NoAttr K C "_moment"
def fJM (s f l : Int) (m : Option Int) : List (Str × V) := [("_size", .int s), ("_flow", .int f), ("_level", .int l), ("_moment", opV m)]
structure JOk (s f l : Int) (m : Option Int) : Prop where
  f0 : 0 ≤ f
  f1 : f ≤ 1000000000
  mm : l ≠ 0 → ∃ i, m = some i
def levV (f l : Int) (m : Option Int) (t : Int) : Int := if l = 0 then 0 else max 0 (l - f * (t - m.getD 0))
def waitJ (s f l : Int) (m : Option Int) (t c : Int) : Option Int :=
  if c > s then none else if levV f l m t + c - s ≤ 0 then some 0 else if f = 0 then none else some ((levV f l m t + c - s + f - 1) / f)
def RLev (C : Addr) (vs : List V) (H : Hp) (v : V) : Prop := ∃ x dx s f l m t, vs = [.ref x, .int t] ∧ H x = some (.ins C dx (fJM s f l m)) ∧ JOk s f l m ∧ v = .int (levV f l m t)
def RCanJ (C : Addr) (vs : List V) (H : Hp) (v : V) : Prop := ∃ x dx s f l m t c, vs = [.ref x, .int t, .int c] ∧ H x = some (.ins C dx (fJM s f l m)) ∧ JOk s f l m ∧ v = .bl (decide (levV f l m t + c ≤ s))
def RWaitJ (C : Addr) (vs : List V) (H : Hp) (v : V) : Prop := ∃ x dx s f l m t c, vs = [.ref x, .int t, .int c] ∧ H x = some (.ins C dx (fJM s f l m)) ∧ JOk s f l m ∧ v = opV (waitJ s f l m t c)
def RKeptJ (C : Addr) (vs : List V) (H : Hp) (v : V) : Prop := ∃ x dx fs, vs = [.ref x] ∧ H x = some (.ins C dx fs) ∧ v = .int 0
theorem rLev {C x dx : Addr} {s f l t : Int} {m : Option Int} {H : Hp} (hx : H x = some (.ins C dx (fJM s f l m))) (j : JOk s f l m) : ∀ H1, Ex H H1 → RLev C [.ref x, .int t] H1 (.int (levV f l m t)) := fun H1 e => ⟨x, dx, s, f, l, m, t, rfl, e _ _ hx, j, rfl⟩
def spTakeJ (C : Addr) : Sp := fun vs H Q _ => ∃ x dx s f l m t c, vs = [.ref x, .int t, .int c] ∧ H x = some (.ins C dx (fJM s f l m)) ∧ JOk s f l m ∧ ∀ H1, Ex H H1 → Q .non (upd H1 x (.ins C dx (fJM s f (levV f l m t + c) (some t))))
def JInitJM (C : Addr) (as : List V) (x dx : Addr) (H : Hp) : Prop := ∃ s f, as = [.int s, .int f] ∧ H x = some (.ins C dx (fJM s f 0 none))
section
variable {P : Program} {w : World} {K : PySem.W.Frag} {mg : Str → Option Value} {base : Heap} {C : Addr}
theorem met_JarMeter__level_at {f : Addr} {fd : FuncData} (T : Blt mg) (k : ClJM K C) (me : Meth K C "_level_at" f) (F : C8.Fun K "_level_at" "JarMeter._level_at" s_JarMeter__level_at f fd) (b : Binds K fd ["self", "moment"] []) : C8.Met P w K mg base 1 C "_level_at" (spF (RLev C)) [] := by
  obtain ⟨cl, n1, n2, n3, n4⟩ := k
  refine metF cl me F b sc_JarMeter__level_at (fun vs H v h => ?_) (fun cdv A outer s H vs v E hr h => ?_)
  · obtain ⟨x, dx, s, f, l, m, t, rfl, _⟩ := h
    rfl
  · obtain ⟨x, dx, s, f, l, m, t, rfl, hx, j, rfl⟩ := h
    refine ⟨_, (pss_cons (ps_if (pt_cmpR op_eq (pe_fld (pv 0) rfl) pe_int (nomark _))
    (pss_one (ps_ret pe_int))
    pss_nil)
  (pss_one (ps_ret (pe_callB (call_max2 rfl) (by rfl) T.b_max boot_max (pa_cons pe_int (pa_cons (pe_op op_sub (pe_fld (pv 0) rfl) (pe_op op_mul (pe_fld (pv 0) rfl) (pe_op op_sub (pv 1) (pe_fld (pv 0) rfl)))) pa_nil)))))), ?_⟩
    have j0 := j.f0
    have j1 := j.f1
    apply rt_ifseq
    · walk_at "tk_ev"
    · intro hb
      have h0 : l = 0 := by simpa using hb
      unfold levV
      rw [if_pos h0]
      walk_at "tk_ev"
    · intro hb
      have h0 : ¬ l = 0 := by simpa using hb
      obtain ⟨i, rfl⟩ := j.mm h0
      unfold levV
      rw [if_neg h0]
      walk_at "tk_ev"
local macro_rules | `(tactic| walk_at "tk_R") => `(tactic| exact rLev (by assumption) (by assumption))
theorem met_JarMeter_can {f : Addr} {fd : FuncData} (k : ClJM K C) (t_JarMeter__level_at : C8.Met P w K mg base 1 C "_level_at" (spF (RLev C)) []) (me : Meth K C "can" f) (F : C8.Fun K "can" "JarMeter.can" s_JarMeter_can f fd) (b : Binds K fd ["self", "moment", "cost"] []) : C8.Met P w K mg base 2 C "can" (spF (RCanJ C)) [] := by
  obtain ⟨cl, n1, n2, n3, n4⟩ := k
  refine metF cl me F b sc_JarMeter_can (fun vs H v h => ?_) (fun cdv A outer s H vs v E hr h => ?_)
  · obtain ⟨x, dx, s, f, l, m, t, c, rfl, _⟩ := h
    rfl
  · obtain ⟨x, dx, s, f, l, m, t, c, rfl, hx, j, rfl⟩ := h
    refine ⟨_, (pss_one (ps_ret (pe_cmpR op_le (pe_op op_add (C8.pe_mt t_JarMeter__level_at hr (by decide) (pv 0) (pa_cons (pv 1) pa_nil)) (pv 2)) (pe_fld (pv 0) rfl) (nomark _)))), ?_⟩
    walk_at "tk_ev"
theorem met_JarMeter_wait {f : Addr} {fd : FuncData} (k : ClJM K C) (t_JarMeter__level_at : C8.Met P w K mg base 1 C "_level_at" (spF (RLev C)) []) (me : Meth K C "wait" f) (F : C8.Fun K "wait" "JarMeter.wait" s_JarMeter_wait f fd) (b : Binds K fd ["self", "moment", "cost"] []) : C8.Met P w K mg base 2 C "wait" (spF (RWaitJ C)) [] := by
  obtain ⟨cl, n1, n2, n3, n4⟩ := k
  refine metF cl me F b sc_JarMeter_wait (fun vs H v h => ?_) (fun cdv A outer s H vs v E hr h => ?_)
  · obtain ⟨x, dx, s, f, l, m, t, c, rfl, _⟩ := h
    rfl
  · obtain ⟨x, dx, s, f, l, m, t, c, rfl, hx, j, rfl⟩ := h
    have j0 := j.f0
    have j1 := j.f1
    refine ⟨_, (pss_cons (ps_if (pt_cmpR op_gt (pv 2) (pe_fld (pv 0) rfl) (nomark _))
    (pss_one (ps_ret pe_non))
    pss_nil)
  (pss_cons (ps_set (i := 3) sc_JarMeter_wait.nd rfl (Or.inl rfl) (pe_op op_sub (pe_op op_add (C8.pe_mt t_JarMeter__level_at hr (by decide) (pv 0) (pa_cons (pv 1) pa_nil)) (pv 2)) (pe_fld (pv 0) rfl)))
  (pss_cons (ps_if (pt_cmpR op_le (pv 3) pe_int (nomark _))
    (pss_one (ps_ret pe_int))
    pss_nil)
  (pss_cons (ps_if (pt_cmpR op_eq (pe_fld (pv 0) rfl) pe_int (nomark _))
    (pss_one (ps_ret pe_non))
    pss_nil)
  (pss_one (ps_ret (pe_op op_fdiv (pe_op op_sub (pe_op op_add (pv 3) (pe_fld (pv 0) rfl)) pe_int) (pe_fld (pv 0) rfl)))))))), ?_⟩
    unfold waitJ
    apply rt_ifseq
    · walk_at "tk_ev"
    · intro hb
      have h1 : c > s := by simpa using hb
      rw [if_pos h1]
      walk_at "tk_ev"
    · intro hb
      have h1 : ¬ c > s := by simpa using hb
      rw [if_neg h1]
      refine rt_seq (nx_asg (v := .int (levV f l m t + c - s)) (by walk_at "tk_ev")) ?_
      apply rt_ifseq
      · walk_at "tk_ev"
      · intro hb
        have h2 : levV f l m t + c - s ≤ 0 := by simpa using hb
        rw [if_pos h2]
        walk_at "tk_ev"
      · intro hb
        have h2 : ¬ levV f l m t + c - s ≤ 0 := by simpa using hb
        rw [if_neg h2]
        apply rt_ifseq
        · walk_at "tk_ev"
        · intro hb
          have h3 : f = 0 := by simpa using hb
          rw [if_pos h3]
          walk_at "tk_ev"
        · intro hb
          have h3 : ¬ f = 0 := by simpa using hb
          rw [if_neg h3]
          walk_at "tk_ev"
theorem met_JarMeter_kept {f : Addr} {fd : FuncData} (k : ClJM K C) (me : Meth K C "kept" f) (F : C8.Fun K "kept" "JarMeter.kept" s_JarMeter_kept f fd) (b : Binds K fd ["self"] []) : C8.Met P w K mg base 1 C "kept" (spF (RKeptJ C)) [] := by
  refine metF k.cl me F b sc_JarMeter_kept (fun vs H v h => ?_) (fun cdv A outer s H vs v E hr h => ?_)
  · obtain ⟨x, dx, fs, rfl, _⟩ := h
    rfl
  · obtain ⟨x, dx, fs, rfl, hx, rfl⟩ := h
    refine ⟨_, (pss_one (ps_ret pe_int)), ?_⟩
    walk_at "tk_ev"
theorem met_JarMeter_take {f : Addr} {fd : FuncData} (k : ClJM K C) (t_JarMeter__level_at : C8.Met P w K mg base 1 C "_level_at" (spF (RLev C)) []) (me : Meth K C "take" f) (F : C8.Fun K "take" "JarMeter.take" s_JarMeter_take f fd) (b : Binds K fd ["self", "moment", "cost"] []) : C8.Met P w K mg base 2 C "take" (spTakeJ C) [] := by
  obtain ⟨cl, n1, n2, n3, n4⟩ := k
  refine C8.met0 cl me F b sc_JarMeter_take (fun vs H Q E h => ?_) (fun cdv A outer s H vs Q E hr h => ?_)
  · obtain ⟨x, dx, s, f, l, m, t, c, rfl, _⟩ := h
    rfl
  · obtain ⟨x, dx, s, f, l, m, t, c, rfl, hx, j, q⟩ := h
    refine ⟨_, (pss_cons (ps_fld (pv 0) (pe_op op_add (C8.pe_mt t_JarMeter__level_at hr (by decide) (pv 0) (pa_cons (pv 1) pa_nil)) (pv 2)) rfl)
  (pss_one (ps_fld (pv 0) (pv 1) rfl))), ?_⟩
    have e1 : Ev (tOp (rI0 fun i j => V.int (i + j)) (tMeth C "_level_at" (spF (RLev C)) [] C8.E0 (tVar 0) (tCons (tVar 1) tNil)) (tVar 2)) (start ["self", "moment", "cost"] [.ref x, .int t, .int c]) H (.int (levV f l m t + c)) := by walk_at "tk_ev"
    refine e1 H (Ex.refl H) _ fun H1 g1 => ?_
    refine ⟨_, rfl, x, C, dx, _, rfl, g1 _ _ hx, cl, n3, by show 4 < 1000; decide, ?_⟩
    refine ⟨_, rfl, _, rfl, x, C, dx, _, rfl, upd_same, cl, n4, by show 4 < 1000; decide, ?_⟩
    have z : upd (upd H1 x (.ins C dx (putF "_level" (.int (levV f l m t + c)) (fJM s f l m)))) x (.ins C dx (putF "_moment" (.int t) (putF "_level" (.int (levV f l m t + c)) (fJM s f l m)))) = upd H1 x (.ins C dx (fJM s f (levV f l m t + c) (some t))) := by
      funext b
      by_cases hb : b = x
      · rw [hb, upd_same, upd_same]
        rfl
      · rw [upd_ne hb, upd_ne hb, upd_ne hb]
    show Q .non (upd (upd H1 x _) x _)
    rw [z]
    exact q H1 g1
theorem mak_JarMeter {f : Addr} {fd : FuncData} (k : ClJM K C) (M : Mk K C f) (hm : mg "JarMeter" = some (.ref C)) (F : C8.Fun K "__init__" "JarMeter.__init__" s_JarMeter_init f fd) (b : Binds K fd ["self", "size", "flow"] []) : C8.Mak P w K mg base 1 "JarMeter" C (spI C (fun as => ∃ s f : Int, as = [.int s, .int f]) (JInitJM C)) [] := by
  obtain ⟨cl, n1, n2, n3, n4⟩ := k
  refine C8.mak0 M hm F b .nil sc_JarMeter_init (fun vs H Q E h => ?_) (fun cdv A outer s H vs Q E hr h => ?_)
  · obtain ⟨x, dx, as, rfl, _, ⟨s, f, rfl⟩, _⟩ := h
    rfl
  · obtain ⟨x, dx, as, rfl, hx, ⟨s, f, rfl⟩, q⟩ := h
    refine ⟨_, (pss_cons (ps_fld (pv 0) (pv 1) rfl)
  (pss_cons (ps_fld (pv 0) (pv 2) rfl)
  (pss_cons (ps_fld (pv 0) pe_int rfl)
  (pss_one (ps_fld (pv 0) pe_non rfl))))), ?_⟩
    refine ⟨_, rfl, _, rfl, x, C, dx, _, rfl, hx, cl, n1, by show 0 < 1000; decide, ?_⟩
    refine ⟨_, rfl, _, rfl, x, C, dx, _, rfl, upd_same, cl, n2, by show 1 < 1000; decide, ?_⟩
    refine ⟨_, rfl, x, C, dx, _, rfl, upd_same, cl, n3, by show 2 < 1000; decide, ?_⟩
    refine ⟨_, rfl, x, C, dx, _, rfl, upd_same, cl, n4, by show 3 < 1000; decide, ?_⟩
    refine q _ (fun b o hb e => ?_) ⟨s, f, rfl, upd_same⟩
    rw [upd_ne hb, upd_ne hb, upd_ne hb, upd_ne hb]
    exact e
end
/-! the window's meter -/
structure ClWM (K : PySem.W.Frag) (C : Addr) : Prop where
  cl : Cls K C
  n1 : NoAttr K C "_most"
  n2 : NoAttr K C "_span"
  n3 : NoAttr K C "_rows"
  n4 : NoAttr K C "_gone"
  n5 : NoAttr K C "_total"
def fWM (m s : Int) (l : Addr) (g t : Int) : List (Str × V) := [("_most", .int m), ("_span", .int s), ("_rows", .ref l), ("_gone", .int g), ("_total", .int t)]
/-- the first row whose total is no less -/
def firstGe (rs : List (Int × Int)) (due : Int) : Nat := rs.findIdx fun q => decide (due ≤ q.2)
def MonoT (rs : List (Int × Int)) : Prop := ∀ i j : Nat, i ≤ j → j < rs.length → (rs.getD i (0, 0)).2 ≤ (rs.getD j (0, 0)).2
structure WOk (g tot : Int) (rs : List (Int × Int)) : Prop where
  mono : MonoT rs
  nil : rs = [] → tot ≤ g
  last : rs ≠ [] → tot ≤ (rs.getD (rs.length - 1) (0, 0)).2
  len : rs.length ≤ 1000
def waitW (m s g tot : Int) (rs : List (Int × Int)) (t c : Int) : Option Int :=
  if c > m then none else if tot + c - m ≤ g then some 0 else some (max 0 ((rs.getD (firstGe rs (tot + c - m)) (0, 0)).1 + s - t))
theorem firstGe_lt {rs : List (Int × Int)} {due : Int} (h : rs ≠ []) (hl : due ≤ (rs.getD (rs.length - 1) (0, 0)).2) : firstGe rs due < rs.length := by
  unfold firstGe
  have hp := List.length_pos_iff.mpr h
  refine List.findIdx_lt_length_of_exists ⟨rs[rs.length - 1], List.getElem_mem _, ?_⟩
  rw [List.getD_eq_getElem?_getD, List.getElem?_eq_getElem (by omega)] at hl
  exact decide_eq_true hl
theorem firstGe_ge {rs : List (Int × Int)} {due : Int} (h : firstGe rs due < rs.length) : due ≤ (rs.getD (firstGe rs due) (0, 0)).2 := by
  have z := List.findIdx_getElem (xs := rs) (p := fun q : Int × Int => decide (due ≤ q.2)) (w := h)
  rw [List.getD_eq_getElem?_getD, List.getElem?_eq_getElem h]
  exact of_decide_eq_true z
theorem firstGe_before {rs : List (Int × Int)} {due : Int} {i : Nat} (h : i < firstGe rs due) : (rs.getD i (0, 0)).2 < due := by
  have hi : i < rs.length := Nat.lt_of_lt_of_le h List.findIdx_le_length
  have z := List.not_of_lt_findIdx (xs := rs) (p := fun q => decide (due ≤ q.2)) h
  rw [List.getD_eq_getElem?_getD, List.getElem?_eq_getElem hi]
  have z2 : ¬ due ≤ (rs[i]).2 := of_decide_eq_false z
  show (rs[i]).2 < due
  omega
def RPlace (vs : List V) (H : Hp) (v : V) : Prop := ∃ l rs due, vs = [.ref l, .int due] ∧ PairsT H l rs ∧ MonoT rs ∧ firstGe rs due < rs.length ∧ rs.length ≤ 1000 ∧ v = .int (firstGe rs due : Nat)
def RWaitW (C : Addr) (vs : List V) (H : Hp) (v : V) : Prop := ∃ x dx m s l g tot rs t c, vs = [.ref x, .int t, .int c] ∧ H x = some (.ins C dx (fWM m s l g tot)) ∧ PairsT H l rs ∧ WOk g tot rs ∧ v = opV (waitW m s g tot rs t c)
def RCanW (C : Addr) (vs : List V) (H : Hp) (v : V) : Prop := ∃ x dx m s l g tot rs t c, vs = [.ref x, .int t, .int c] ∧ H x = some (.ins C dx (fWM m s l g tot)) ∧ PairsT H l rs ∧ WOk g tot rs ∧ v = .bl (decide (waitW m s g tot rs t c = some 0))
def RKeptW (C : Addr) (vs : List V) (H : Hp) (v : V) : Prop := ∃ x dx m s l g tot rs, vs = [.ref x] ∧ H x = some (.ins C dx (fWM m s l g tot)) ∧ PairsT H l rs ∧ v = .int (rs.length : Int)
section
variable {P : Program} {w : World} {K : PySem.W.Frag} {mg : Str → Option Value} {base : Heap} {C : Addr}
local macro_rules | `(tactic| walk_at "tk_len") => `(tactic| (with_reducible apply ev_lenP))
theorem cal_place_reaching {f : Addr} {fd : FuncData} (T : Blt mg) (F : C8.Def K mg "_place_reaching" s_place_reaching f fd) (b : Binds K fd ["rows", "total"] []) : C8.Cal P w K mg base 1 "_place_reaching" (spF RPlace) [] := by
  refine calF F b sc_place_reaching (fun vs H v h => ?_) (fun cdv A outer s H vs v E hr h => ?_)
  · obtain ⟨l, rs, due, rfl, _⟩ := h
    rfl
  · obtain ⟨l, rs, due, rfl, hP, hm, hF, hn, rfl⟩ := h
    refine ⟨_, (pss_cons (ps_set (i := 2) sc_place_reaching.nd rfl (Or.inl rfl) pe_int)
  (pss_cons (ps_set (i := 3) sc_place_reaching.nd rfl (Or.inl rfl) (pe_op op_sub (pe_callB call_len_seq (by rfl) T.b_len boot_len (pa_cons (pv 0) pa_nil)) pe_int))
  (pss_cons (ps_while PassesOwn.never (pt_cmpR op_lt (pv 2) (pv 3) (nomark _))
    (pss_cons (ps_set (i := 4) sc_place_reaching.nd rfl (Or.inl rfl) (pe_op op_fdiv (pe_op op_add (pv 2) (pv 3)) pe_int))
    (pss_one (ps_if (pt_cmpR op_lt (pe_ix ix_tup (pe_ix ix_list (pv 0) (pv 4) (fun _ _ => rfl)) pe_int (fun _ _ => rfl)) (pv 1) (nomark _))
      (pss_one (ps_set (i := 2) sc_place_reaching.nd rfl (Or.inl rfl) (pe_op op_add (pv 4) pe_int)))
      (pss_one (ps_set (i := 3) sc_place_reaching.nd rfl (Or.inl rfl) (pv 4)))))))
  (pss_one (ps_ret (pv 2)))))), ?_⟩
    have ge := firstGe_ge hF
    refine rt_seq (nx_asg (v := .int ((0 : Nat) : Int)) (by walk_at "tk_ev")) ?_
    refine rt_seq (nx_asg (v := .int ((rs.length : Int) - 1)) (by walk_at "tk_ev")) ?_
    refine rt_seqP (P := fun σ => ∃ (lo : Nat) (mid : Option V), σ = [some (.ref l), some (.int due), some (.int (lo : Int)), some (.int (lo : Int)), mid] ∧ lo = firstGe rs due) (nxp_while (fun σ => ∃ (lo hi : Nat) (mid : Option V), σ = [some (.ref l), some (.int due), some (.int (lo : Int)), some (.int (hi : Int)), mid] ∧ lo ≤ firstGe rs due ∧ firstGe rs due ≤ hi ∧ hi < rs.length)
      (fun σ => match σ with
        | [_, _, some (.int lo), some (.int hi), _] => (hi - lo).toNat
        | _ => 0) ?_ ?_) ?_
    · refine ⟨0, rs.length - 1, none, ?_, Nat.zero_le _, by omega, by omega⟩
      rw [show (((rs.length - 1 : Nat)) : Int) = (rs.length : Int) - 1 by omega]
      rfl
    · rintro σ ⟨lo, hi, mid, rfl, h1, h2, h3⟩
      refine ⟨decide ((lo : Int) < (hi : Int)), by walk_at "tk_ev", fun hb => ?_, fun hb => ?_⟩
      · have hlt : (lo : Int) < (hi : Int) := of_decide_eq_true hb
        have em : ((lo : Int) + (hi : Int)) / 2 = (((lo + hi) / 2 : Nat) : Int) := by omega
        refine nxp_seqP (nxp_of (nx_asg (v := .int (((lo + hi) / 2 : Nat) : Int)) ?_) (P := fun σ => σ = [some (.ref l), some (.int due), some (.int (lo : Int)), some (.int (hi : Int)), some (.int (((lo + hi) / 2 : Nat) : Int))]) rfl) ?_
        · rw [← em]
          walk_at "tk_ev"
        · rintro σ rfl
          have e2 : rs[(((lo + hi) / 2 : Nat) : Int).toNat]? = some (rs.getD ((lo + hi) / 2) (0, 0)) := by
            rw [Int.toNat_natCast]
            exact getD_some (by omega)
          refine nxp_if (b := decide ((rs.getD ((lo + hi) / 2) (0, 0)).2 < due)) ?_ (fun hc => ?_) (fun hc => ?_)
          · exact et_test (ev_op (ev_pair1 (ev_var rfl) (ev_var rfl) hP (by omega) e2) (ev_var rfl) rv_I0)
          · have hd := of_decide_eq_true hc
            have hf : (lo + hi) / 2 < firstGe rs due := by
              refine Nat.lt_of_not_le fun hle => ?_
              have := hm _ _ hle (show (lo + hi) / 2 < rs.length by omega)
              omega
            refine nxp_of (nx_asg (v := .int (((lo + hi) / 2 + 1 : Nat) : Int)) ?_) ⟨⟨(lo + hi) / 2 + 1, hi, _, rfl, by omega, h2, h3⟩, ?_⟩
            · rw [Int.natCast_add]
              walk_at "tk_ev"
            · show ((hi : Int) - (((lo + hi) / 2 + 1 : Nat) : Int)).toNat < ((hi : Int) - (lo : Int)).toNat
              omega
          · have hd := of_decide_eq_false hc
            have hf : firstGe rs due ≤ (lo + hi) / 2 := by
              refine Nat.le_of_not_lt fun hle => ?_
              have := firstGe_before hle
              omega
            refine nxp_of (nx_asg (v := .int (((lo + hi) / 2 : Nat) : Int)) ?_) ⟨⟨lo, (lo + hi) / 2, _, rfl, h1, hf, by omega⟩, ?_⟩
            · walk_at "tk_ev"
            · show ((((lo + hi) / 2 : Nat) : Int) - (lo : Int)).toNat < ((hi : Int) - (lo : Int)).toNat
              omega
      · have hge : ¬ (lo : Int) < (hi : Int) := of_decide_eq_false hb
        obtain rfl : lo = hi := by omega
        exact ⟨lo, mid, rfl, by omega⟩
    · rintro σ ⟨lo, mid, rfl, rfl⟩
      walk_at "tk_ev"
theorem met_WindowMeter_wait {f : Addr} {fd : FuncData} (T : Blt mg) (k : ClWM K C) (c_place_reaching : C8.Cal P w K mg base 1 "_place_reaching" (spF RPlace) []) (me : Meth K C "wait" f) (F : C8.Fun K "wait" "WindowMeter.wait" s_WindowMeter_wait f fd) (b : Binds K fd ["self", "moment", "cost"] []) : C8.Met P w K mg base 2 C "wait" (spF (RWaitW C)) [] := by
  obtain ⟨cl, n1, n2, n3, n4, n5⟩ := k
  refine metF cl me F b sc_WindowMeter_wait (fun vs H v h => ?_) (fun cdv A outer s H vs v E hr h => ?_)
  · obtain ⟨x, dx, m, s, l, g, tot, rs, t, c, rfl, _⟩ := h
    rfl
  · obtain ⟨x, dx, m, s, l, g, tot, rs, t, c, rfl, hx, hP, ok, rfl⟩ := h
    refine ⟨_, (pss_cons (ps_if (pt_cmpR op_gt (pv 2) (pe_fld (pv 0) rfl) (nomark _))
    (pss_one (ps_ret pe_non))
    pss_nil)
  (pss_cons (ps_set (i := 3) sc_WindowMeter_wait.nd rfl (Or.inl rfl) (pe_op op_sub (pe_op op_add (pe_fld (pv 0) rfl) (pv 2)) (pe_fld (pv 0) rfl)))
  (pss_cons (ps_if (pt_cmpR op_le (pv 3) (pe_fld (pv 0) rfl) (nomark _))
    (pss_one (ps_ret pe_int))
    pss_nil)
  (pss_cons (ps_set (i := 4) sc_WindowMeter_wait.nd rfl (Or.inl rfl) (pe_ix ix_tup (pe_ix ix_list (pe_fld (pv 0) rfl) (C8.pe_c c_place_reaching hr (by decide) rfl (pa_cons (pe_fld (pv 0) rfl) (pa_cons (pv 3) pa_nil))) (fun _ _ => rfl)) pe_int (fun _ _ => rfl)))
  (pss_one (ps_ret (pe_callB (call_max2 rfl) (by rfl) T.b_max boot_max (pa_cons pe_int (pa_cons (pe_op op_sub (pe_op op_add (pv 4) (pe_fld (pv 0) rfl)) (pv 1)) pa_nil))))))))), ?_⟩
    unfold waitW
    apply rt_ifseq
    · walk_at "tk_ev"
    · intro hb
      have h1 : c > m := by simpa using hb
      rw [if_pos h1]
      walk_at "tk_ev"
    · intro hb
      have h1 : ¬ c > m := by simpa using hb
      rw [if_neg h1]
      refine rt_seq (nx_asg (v := .int (tot + c - m)) (by walk_at "tk_ev")) ?_
      apply rt_ifseq
      · walk_at "tk_ev"
      · intro hb
        have h2 : tot + c - m ≤ g := by simpa using hb
        rw [if_pos h2]
        walk_at "tk_ev"
      · intro hb
        have h2 : ¬ tot + c - m ≤ g := by simpa using hb
        rw [if_neg h2]
        have hne : rs ≠ [] := fun z => by
          have := ok.nil z
          omega
        have hlt : firstGe rs (tot + c - m) < rs.length := firstGe_lt hne (by
          have := ok.last hne
          omega)
        have hR : ∀ H1, Ex H H1 → RPlace [.ref l, .int (tot + c - m)] H1 (.int (firstGe rs (tot + c - m) : Nat)) := fun H1 e => ⟨l, rs, _, rfl, hP.mono e, ok.mono, hlt, ok.len, rfl⟩
        refine rt_seq (nx_asg (v := .int (rs.getD (firstGe rs (tot + c - m)) (0, 0)).1) ?_) ?_
        · refine ev_pair0 (i := (firstGe rs (tot + c - m) : Nat)) (by walk_at "tk_ev") (ev_callF (by walk_at "tk_ev") hR) hP (by omega) ?_
          rw [Int.toNat_natCast]
          exact getD_some hlt
        · show Rt _ _ _ (.int (max 0 ((rs.getD (firstGe rs (tot + c - m)) (0, 0)).1 + s - t)))
          walk_at "tk_ev"
theorem met_WindowMeter_can {f : Addr} {fd : FuncData} (k : ClWM K C) (t_WindowMeter_wait : C8.Met P w K mg base 2 C "wait" (spF (RWaitW C)) []) (me : Meth K C "can" f) (F : C8.Fun K "can" "WindowMeter.can" s_WindowMeter_can f fd) (b : Binds K fd ["self", "moment", "cost"] []) : C8.Met P w K mg base 3 C "can" (spF (RCanW C)) [] := by
  obtain ⟨cl, n1, n2, n3, n4, n5⟩ := k
  refine metF cl me F b sc_WindowMeter_can (fun vs H v h => ?_) (fun cdv A outer s H vs v E hr h => ?_)
  · obtain ⟨x, dx, m, s, l, g, tot, rs, t, c, rfl, _⟩ := h
    rfl
  · obtain ⟨x, dx, m, s, l, g, tot, rs, t, c, rfl, hx, hP, ok, rfl⟩ := h
    refine ⟨_, (pss_one (ps_ret (pe_cmpR op_eq (C8.pe_mt t_WindowMeter_wait hr (by decide) (pv 0) (pa_cons (pv 1) (pa_cons (pv 2) pa_nil))) pe_int (nomark _)))), ?_⟩
    have hR : ∀ H1, Ex H H1 → RWaitW C [.ref x, .int t, .int c] H1 (opV (waitW m s g tot rs t c)) := fun H1 e => ⟨x, dx, m, s, l, g, tot, rs, t, c, rfl, e _ _ hx, hP.mono e, ok, rfl⟩
    have ew := ev_methF (σ := start ["self", "moment", "cost"] [.ref x, .int t, .int c]) (H := H) (E := C8.E0) (m := "wait") (ev_var (i := 0) rfl) hx rfl (ea_cons (ev_var (i := 1) rfl) (ea_cons (ev_var (i := 2) rfl) ea_nil)) hR
    refine rt_ret (ev_is (ev_op ew ev_c (rv_eq ?_)) ?_)
    · cases waitW m s g tot rs t c <;> rfl
    · cases waitW m s g tot rs t c with
      | none => rfl
      | some i => exact congrArg V.bl (decide_eq_decide.mpr ⟨fun h => by cases h; rfl, fun h => by cases h; rfl⟩)
theorem met_WindowMeter_kept {f : Addr} {fd : FuncData} (T : Blt mg) (k : ClWM K C) (me : Meth K C "kept" f) (F : C8.Fun K "kept" "WindowMeter.kept" s_WindowMeter_kept f fd) (b : Binds K fd ["self"] []) : C8.Met P w K mg base 1 C "kept" (spF (RKeptW C)) [] := by
  obtain ⟨cl, n1, n2, n3, n4, n5⟩ := k
  refine metF cl me F b sc_WindowMeter_kept (fun vs H v h => ?_) (fun cdv A outer s H vs v E hr h => ?_)
  · obtain ⟨x, dx, m, s, l, g, tot, rs, rfl, _⟩ := h
    rfl
  · obtain ⟨x, dx, m, s, l, g, tot, rs, rfl, hx, hP, rfl⟩ := h
    refine ⟨_, (pss_one (ps_ret (pe_callB call_len_seq (by rfl) T.b_len boot_len (pa_cons (pe_fld (pv 0) rfl) pa_nil)))), ?_⟩
    walk_at "tk_ev"
/-- how many rows ahead are not behind lim -/
def oldN (rs : List (Int × Int)) (lim : Int) : Nat := (rs.takeWhile fun q => decide (q.1 ≤ lim)).length
theorem oldN_le (rs : List (Int × Int)) (lim : Int) : oldN rs lim ≤ rs.length := by
  induction rs with
  | nil => exact Nat.le_refl _
  | cons q rs ih =>
    unfold oldN at ih ⊢
    rw [List.takeWhile_cons]
    split
    · rw [List.length_cons, List.length_cons]; omega
    · simp
theorem oldN_in : ∀ (rs : List (Int × Int)) (lim : Int) (i : Nat), i < oldN rs lim → (rs.getD i (0, 0)).1 ≤ lim
  | [], _, _, h => absurd h (Nat.not_lt_zero _)
  | q :: rs, lim, i, h => by
    unfold oldN at h
    rw [List.takeWhile_cons] at h
    split at h
    · rename_i hq
      cases i with
      | zero => exact of_decide_eq_true hq
      | succ i => exact oldN_in rs lim i (Nat.lt_of_succ_lt_succ h)
    · exact absurd h (Nat.not_lt_zero _)
theorem oldN_out : ∀ (rs : List (Int × Int)) (lim : Int), oldN rs lim < rs.length → ¬ (rs.getD (oldN rs lim) (0, 0)).1 ≤ lim
  | [], _, h => absurd h (Nat.not_lt_zero _)
  | q :: rs, lim, h => by
    have e : oldN (q :: rs) lim = if decide (q.1 ≤ lim) = true then oldN rs lim + 1 else 0 := by
      unfold oldN
      rw [List.takeWhile_cons]
      split <;> rfl
    rw [e] at h ⊢
    by_cases hq : decide (q.1 ≤ lim) = true
    · rw [if_pos hq] at h ⊢
      exact oldN_out rs lim (Nat.lt_of_succ_lt_succ h)
    · rw [if_neg hq]
      exact fun z => hq (decide_eq_true z)
def goneV (rs : List (Int × Int)) (k : Nat) (g : Int) : Int := if k = 0 then g else (rs.getD (k - 1) (0, 0)).2
def spForget (C : Addr) : Sp := fun vs H Q _ => ∃ x dx m s l g tot rs lim, vs = [.ref x, .int lim] ∧ H x = some (.ins C dx (fWM m s l g tot)) ∧ PairsT H l rs ∧ rs.length ≤ 1000 ∧
  ∀ H2, (∀ b o, b ≠ x → b ≠ l → H b = some o → H2 b = some o) → H2 x = some (.ins C dx (fWM m s l (goneV rs (oldN rs lim) g) tot)) → PairsT H2 l (rs.drop (oldN rs lim)) → Q .non H2
theorem met_WindowMeter__forget {f : Addr} {fd : FuncData} (T : Blt mg) (k : ClWM K C) (me : Meth K C "_forget" f) (F : C8.Fun K "_forget" "WindowMeter._forget" s_WindowMeter__forget f fd) (b : Binds K fd ["self", "moment"] []) : C8.Met P w K mg base 1 C "_forget" (spForget C) [] := by
  obtain ⟨cl, n1, n2, n3, n4, n5⟩ := k
  refine C8.met0 cl me F b sc_WindowMeter__forget (fun vs H Q E h => ?_) (fun cdv A outer s H vs Q E hr h => ?_)
  · obtain ⟨x, dx, m, s, l, g, tot, rs, lim, rfl, _⟩ := h
    rfl
  · obtain ⟨x, dx, m, s, l, g, tot, rs, lim, rfl, hx, hP, hn, q⟩ := h
    refine ⟨_, (pss_cons (ps_set (i := 2) sc_WindowMeter__forget.nd rfl (Or.inl rfl) pe_int)
  (pss_cons (ps_while PassesOwn.never (PW.pt (pw_and (pt_cmpR op_lt (pv 2) (pe_callB call_len_seq (by rfl) T.b_len boot_len (pa_cons (pe_fld (pv 0) rfl) pa_nil)) (nomark _)) (pw_and1 (pt_cmpR op_le (pe_ix ix_tup (pe_ix ix_list (pe_fld (pv 0) rfl) (pv 2) (fun _ _ => rfl)) pe_int (fun _ _ => rfl)) (pv 1) (nomark _)))))
    (pss_one (ps_aug (i := 2) sc_WindowMeter__forget.nd rfl (Or.inl rfl) pe_int ip_add)))
  (pss_one (ps_if (pt_cmpR op_gt (pv 2) pe_int (nomark _))
    (pss_cons (ps_fld (pv 0) (pe_ix ix_tup (pe_ix ix_list (pe_fld (pv 0) rfl) (pe_op op_sub (pv 2) pe_int) (fun _ _ => rfl)) pe_int (fun _ _ => rfl)) rfl)
    (pss_one (ps_delTo (pe_fld (pv 0) rfl) (pv 2))))
    pss_nil)))), ?_⟩
    have le := oldN_le rs lim
    refine Nx.go (nx_asg (v := .int ((0 : Nat) : Int)) (by walk_at "tk_ev")) fun H1 e1 => ?_
    replace hx := e1 _ _ hx
    have hP1 := hP.mono e1
    refine Nx.go (nx_while (oldN rs lim) (fun i => [some (.ref x), some (.int lim), some (.int (i : Int))]) (fun i hi => ⟨?_, ?_⟩) ?_) fun H2 e2 => ?_
    · have hin := oldN_in rs lim i hi
      refine et_is (et_and (b := true) (et_test (ev_op (ev_var rfl) (ev_lenP (by walk_at "tk_ev") hP1) rv_I0)) fun _ => et_is (et_test (ev_op (ev_pair0 (q := rs.getD i (0, 0)) (by walk_at "tk_ev") (ev_var rfl) hP1 (by omega) (by rw [Int.toNat_natCast]; exact getD_some (by omega))) (ev_var rfl) rv_I0)) (decide_eq_true hin)) ?_
      rw [Bool.and_true]
      exact decide_eq_true (by omega)
    · have h := nx_aug (σ := [some (.ref x), some (.int lim), some (.int (i : Int))]) (H := H1) (i := 2) (f := fun i j => i + j) (te := tC (.int 1)) rfl ev_c
      rw [show (some (V.int (((i + 1 : Nat)) : Int))) = some (V.int ((i : Int) + 1)) from rfl]
      exact h
    · by_cases hlt : oldN rs lim < rs.length
      · have hout := oldN_out rs lim hlt
        refine et_is (et_and (b := false) (et_test (ev_op (ev_var rfl) (ev_lenP (by walk_at "tk_ev") hP1) rv_I0)) fun _ => et_is (et_test (ev_op (ev_pair0 (q := rs.getD (oldN rs lim) (0, 0)) (by walk_at "tk_ev") (ev_var rfl) hP1 (by omega) (by rw [Int.toNat_natCast]; exact getD_some hlt)) (ev_var rfl) rv_I0)) (decide_eq_false hout)) ?_
        rw [Bool.and_false]
      · refine et_is (et_and (a := false) (b := true) (et_is (et_test (ev_op (ev_var rfl) (ev_lenP (by walk_at "tk_ev") hP1) rv_I0)) (decide_eq_false (by omega))) fun z => by cases z) ?_
        rfl
    · replace hx := e2 _ _ hx
      have hP2 := hP1.mono e2
      refine s_when (b := decide (0 < (oldN rs lim : Int))) (et_test (ev_op (ev_var rfl) ev_c rv_I0)) (fun hb H3 e3 => ?_) (fun hb H3 e3 => ?_)
      · have hk : 0 < (oldN rs lim : Int) := of_decide_eq_true hb
        replace hx := e3 _ _ hx
        have hP3 := hP2.mono e3
        have hge : (rs.getD (oldN rs lim - 1) (0, 0)).2 = goneV rs (oldN rs lim) g := by
          unfold goneV
          rw [if_neg (by omega)]
        have hidx : (((oldN rs lim : Int)) - 1).toNat = oldN rs lim - 1 := by omega
        refine s_fldst (y := .int (goneV rs (oldN rs lim) g)) ?_ (ev_var rfl) hx cl n4 (by show 5 < 1000; decide) fun H4 e4 => ?_
        · rw [← hge]
          refine ev_pair1 (q := rs.getD (oldN rs lim - 1) (0, 0)) (by walk_at "tk_ev") (by walk_at "tk_ev") hP3 (by omega) ?_
          rw [hidx]
          exact getD_some (by omega)
        · obtain ⟨ps, hl, hps⟩ := hP3.mono e4
          have hlx : l ≠ x := ne_of hl (e4 _ _ hx) (by intro z; cases z)
          have hpl := hps.len
          refine ⟨_, rfl, x, C, dx, _, _, rfl, upd_same, cl, n3, rfl, _, rfl, _, rfl, l, ps.map V.ref, oldN rs lim, rfl, rfl, ?_, by rw [List.length_map]; omega, ?_⟩
          · rw [upd_ne hlx]
            exact hl
          · refine q _ (fun b o h1 h2 hb => ?_) ?_ ⟨ps.drop (oldN rs lim), ?_, ?_⟩
            · rw [upd_ne h2, upd_ne h1]
              exact e4 _ _ (e3 _ _ (e2 _ _ (e1 _ _ hb)))
            · rw [upd_ne hlx.symm, upd_same]
              rfl
            · rw [upd_same, List.map_drop]
            · refine Prs.upd (Prs.upd (hps.drop _) fun xs z => ?_) fun xs z => ?_
              · rw [e4 _ _ hx] at z
                cases z
              · rw [upd_ne hlx, hl] at z
                cases z
      · have hk : oldN rs lim = 0 := by
          have := of_decide_eq_false hb
          omega
        refine q H3 (fun b o _ _ hb => e3 _ _ (e2 _ _ (e1 _ _ hb))) ?_ ?_
        · rw [hk]
          exact e3 _ _ hx
        · rw [hk]
          exact hP2.mono e3
end
def spTakeW (C : Addr) : Sp := fun vs H Q _ => ∃ x dx m s l g tot rs t c, vs = [.ref x, .int t, .int c] ∧ H x = some (.ins C dx (fWM m s l g tot)) ∧ PairsT H l rs ∧ rs.length ≤ 900 ∧
  ∀ H2, (∀ b o, b ≠ x → b ≠ l → H b = some o → H2 b = some o) → H2 x = some (.ins C dx (fWM m s l (goneV rs (oldN rs (t - s)) g) (tot + c))) → PairsT H2 l (rs.drop (oldN rs (t - s)) ++ [(t, tot + c)]) → Q .non H2
def JInitWM (C : Addr) (as : List V) (x dx : Addr) (H : Hp) : Prop := ∃ m s l, as = [.int m, .int s] ∧ H x = some (.ins C dx (fWM m s l 0 0)) ∧ H l = some (.lst [])
section
variable {P : Program} {w : World} {K : PySem.W.Frag} {mg : Str → Option Value} {base : Heap} {C : Addr}
theorem met_WindowMeter_take {f : Addr} {fd : FuncData} (k : ClWM K C) (t_WindowMeter__forget : C8.Met P w K mg base 1 C "_forget" (spForget C) []) (me : Meth K C "take" f) (F : C8.Fun K "take" "WindowMeter.take" s_WindowMeter_take f fd) (b : Binds K fd ["self", "moment", "cost"] []) : C8.Met P w K mg base 2 C "take" (spTakeW C) [] := by
  obtain ⟨cl, n1, n2, n3, n4, n5⟩ := k
  refine C8.met0 cl me F b sc_WindowMeter_take (fun vs H Q E h => ?_) (fun cdv A outer s H vs Q E hr h => ?_)
  · obtain ⟨x, dx, m, s, l, g, tot, rs, t, c, rfl, _⟩ := h
    rfl
  · obtain ⟨x, dx, m, s, l, g, tot, rs, t, c, rfl, hx, hP, hn, q⟩ := h
    refine ⟨_, (pss_cons (ps_expr (C8.pe_mt t_WindowMeter__forget hr (by decide) (pv 0) (pa_cons (pe_op op_sub (pv 1) (pe_fld (pv 0) rfl)) pa_nil)))
  (pss_cons (ps_fldaug (pv 0) (pv 2) in_add)
  (pss_one (ps_expr (pe_bm PySem.F.plainAttrs_list PySem.F.slot_list_append PySem.F.type_list_append mt_append (pe_fld (pv 0) rfl) (pa_cons (pe_tup (pa_cons (pv 1) (pa_cons (pe_fld (pv 0) rfl) pa_nil))) pa_nil)))))), ?_⟩
    refine ⟨_, rfl, x, dx, _, rfl, hx, rfl, ?_⟩
    have ea : EvA (tCons (tOp (rI0 fun i j => V.int (i - j)) (tVar 1) (tFld K (tVar 0) "_span")) tNil) (start ["self", "moment", "cost"] [.ref x, .int t, .int c]) H [.int (t - s)] := by walk_at "tk_ev"
    refine ea H (Ex.refl H) _ fun H1 e1 => ?_
    refine ⟨x, dx, m, s, l, g, tot, rs, t - s, rfl, e1 _ _ hx, hP.mono e1, by omega, fun H2 k2 hx2 hP2 => ?_⟩
    refine s_fldaugst (D := { nx := _, rt := Q }) (ev_var rfl) hx2 cl n5 rfl (ev_var rfl) (by show 5 < 1000; decide) fun H3 e3 => ?_
    have hx3 : upd H3 x (.ins C dx (fWM m s l (goneV rs (oldN rs (t - s)) g) (tot + c))) x = some (.ins C dx (fWM m s l (goneV rs (oldN rs (t - s)) g) (tot + c))) := upd_same
    obtain ⟨ps, hl, hps⟩ := hP2.mono e3
    have hlx : l ≠ x := ne_of hl (e3 _ _ hx2) (by intro z; cases z)
    have hl3 : upd H3 x (.ins C dx (fWM m s l (goneV rs (oldN rs (t - s)) g) (tot + c))) l = some (.lst (ps.map V.ref)) := by rw [upd_ne hlx]; exact hl
    have hps3 : Prs (upd H3 x (.ins C dx (fWM m s l (goneV rs (oldN rs (t - s)) g) (tot + c)))) ps (rs.drop (oldN rs (t - s))) := hps.upd fun xs z => by
      rw [e3 _ _ hx2] at z
      cases z
    have hlen : ps.length ≤ 900 := by
      rw [hps.len, List.length_drop]
      omega
    refine s_appU (D := { nx := _, rt := Q }) (ys := [.int t, .int (tot + c)]) hl3 (ev_fld (ev_var rfl) hx3 cl n3 rfl) ?_ (by rw [List.length_map]; omega) fun p H4 np e4 hp => ?_
    · exact eu_tup (ea_cons (ev_var rfl) (ea_cons (ev_fld (ev_var rfl) hx3 cl n5 rfl) ea_nil)) (by simp only [List.length_cons, List.length_nil]; omega)
    · have npl : p ≠ l := fun z => by
        rw [z, hl3] at np
        cases np
      refine q _ (fun b o h1 h2 hb => ?_) ?_ ⟨ps ++ [p], ?_, ?_⟩
      · rw [upd_ne h2]
        refine e4 _ _ ?_
        rw [upd_ne h1]
        exact e3 _ _ (k2 b o h1 h2 (e1 _ _ hb))
      · rw [upd_ne hlx.symm]
        exact e4 _ _ hx3
      · rw [upd_same, List.map_append]
        rfl
      · refine Prs.upd (Prs.snoc (hps3.mono e4) hp) fun xs z => ?_
        rw [e4 _ _ hl3] at z
        cases z
theorem mak_WindowMeter {f : Addr} {fd : FuncData} (k : ClWM K C) (M : Mk K C f) (hm : mg "WindowMeter" = some (.ref C)) (F : C8.Fun K "__init__" "WindowMeter.__init__" s_WindowMeter_init f fd) (b : Binds K fd ["self", "most", "span"] []) : C8.Mak P w K mg base 1 "WindowMeter" C (spI C (fun as => ∃ s f : Int, as = [.int s, .int f]) (JInitWM C)) [] := by
  obtain ⟨cl, n1, n2, n3, n4, n5⟩ := k
  refine C8.mak0 M hm F b .nil sc_WindowMeter_init (fun vs H Q E h => ?_) (fun cdv A outer s H vs Q E hr h => ?_)
  · obtain ⟨x, dx, as, rfl, _, ⟨s, f, rfl⟩, _⟩ := h
    rfl
  · obtain ⟨x, dx, as, rfl, hx, ⟨s, f, rfl⟩, q⟩ := h
    refine ⟨_, (pss_cons (ps_fld (pv 0) (pv 1) rfl)
  (pss_cons (ps_fld (pv 0) (pv 2) rfl)
  (pss_cons (ps_fld (pv 0) (pe_lst pa_nil) rfl)
  (pss_cons (ps_fld (pv 0) pe_int rfl)
  (pss_one (ps_fld (pv 0) pe_int rfl)))))), ?_⟩
    refine ⟨_, rfl, _, rfl, x, C, dx, _, rfl, hx, cl, n1, by show 0 < 1000; decide, ?_⟩
    refine ⟨_, rfl, _, rfl, x, C, dx, _, rfl, upd_same, cl, n2, by show 1 < 1000; decide, ?_⟩
    refine ⟨by show 0 ≤ sizeLine; decide, fun l hl => ?_⟩
    have hxl : x ≠ l := fun z => by
      rw [← z, upd_same] at hl
      cases hl
    refine ⟨_, rfl, x, C, dx, _, rfl, (by rw [upd_ne hxl, upd_same]), cl, n3, by show 2 < 1000; decide, ?_⟩
    refine ⟨_, rfl, x, C, dx, _, rfl, upd_same, cl, n4, by show 3 < 1000; decide, ?_⟩
    refine ⟨_, rfl, x, C, dx, _, rfl, upd_same, cl, n5, by show 4 < 1000; decide, ?_⟩
    refine q _ (fun b o hb e => ?_) ⟨s, f, l, rfl, upd_same, ?_⟩
    · have nb : b ≠ l := fun z => by
        rw [upd_ne hxl.symm, upd_ne hxl.symm] at hl
        rw [z, hl] at e
        cases e
      rw [upd_ne hb, upd_ne hb, upd_ne hb, upd_ne nb, upd_ne hb, upd_ne hb]
      exact e
    · rw [upd_ne hxl.symm, upd_ne hxl.symm, upd_ne hxl.symm, upd_same]
end
/-! what counts as a number within limits; the bounds -/
/-- no number: None, a truth, or of a type beside int -/
def NoInt (K : PySem.W.Frag) (H : Hp) (x : V) : Prop := (∃ b, x = .bl b) ∨ ∃ n : String, (∀ H1, Ex H H1 → TyX K H1 x (.type n)) ∧ kitB n "int" = some false
theorem NoInt.mono {K : PySem.W.Frag} {H H' : Hp} {x : V} (e : Ex H H') (h : NoInt K H x) : NoInt K H' x := h.imp id fun ⟨n, h1, h2⟩ => ⟨n, fun H1 e1 => h1 H1 (e.trans e1), h2⟩
def RWithin (K : PySem.W.Frag) (vs : List V) (H : Hp) (v : V) : Prop := ∃ x lo hi, vs = [x, .int lo, .int hi] ∧ ((∃ i, x = .int i ∧ v = .bl (decide (lo ≤ i) && decide (i ≤ hi))) ∨ (NoInt K H x ∧ v = .bl false))
structure ClJar (K : PySem.W.Frag) (C : Addr) : Prop where
  cl : Cls K C
  n1 : NoAttr K C "_size"
  n2 : NoAttr K C "_flow"
structure ClWin (K : PySem.W.Frag) (C : Addr) : Prop where
  cl : Cls K C
  n1 : NoAttr K C "_most"
  n2 : NoAttr K C "_span"
def fJar (s f : Int) : List (Str × V) := [("_size", .int s), ("_flow", .int f)]
def fWin (m s : Int) : List (Str × V) := [("_most", .int m), ("_span", .int s)]
def DJar (as : List V) : Prop := ∃ s f : Int, as = [.int s, .int f] ∧ 1 ≤ s ∧ s ≤ 1000000000000000 ∧ 0 ≤ f ∧ f ≤ 1000000000
def DWin (as : List V) : Prop := ∃ m s : Int, as = [.int m, .int s] ∧ 1 ≤ m ∧ m ≤ 1000000000000000 ∧ 1 ≤ s ∧ s ≤ 1000000000000
def JJar (C : Addr) (as : List V) (x dx : Addr) (H : Hp) : Prop := ∃ s f, as = [.int s, .int f] ∧ H x = some (.ins C dx (fJar s f))
def JWin (C : Addr) (as : List V) (x dx : Addr) (H : Hp) : Prop := ∃ m s, as = [.int m, .int s] ∧ H x = some (.ins C dx (fWin m s))
theorem tyi {K : PySem.W.Frag} {H : Hp} (i : Int) : ∀ H1, Ex H H1 → TyX K H1 (.int i) (.type "int") := fun _ _ => .base (.int i)
theorem tyb {K : PySem.W.Frag} {H : Hp} (b : Bool) : ∀ H1, Ex H H1 → TyX K H1 (.bl b) (.type "bool") := fun _ _ => .base (.bl b)
theorem kii {K : PySem.W.Frag} : PySem.W.kitOne K (.type "int") (.type "int") = some true := kit_ty (by decide +kernel)
theorem kib {K : PySem.W.Frag} : PySem.W.kitOne K (.type "int") (.type "bool") = some false := kit_ty (by decide +kernel)
theorem kbi {K : PySem.W.Frag} : PySem.W.kitOne K (.type "bool") (.type "int") = some true := kit_ty (by decide +kernel)
theorem kbb {K : PySem.W.Frag} : PySem.W.kitOne K (.type "bool") (.type "bool") = some true := kit_ty (by decide +kernel)
section
variable {P : Program} {w : World} {K : PySem.W.Frag} {mg : Str → Option Value} {base : Heap} {C : Addr}
theorem cal_is_within {f : Addr} {fd : FuncData} (T : Blt mg) (F : C8.Def K mg "is_within" s_is_within f fd) (b : Binds K fd ["value", "least", "largest"] []) : C8.Cal P w K mg base 1 "is_within" (spF (RWithin K)) [] := by
  refine calF F b sc_is_within (fun vs H v h => ?_) (fun cdv A outer s H vs v E hr h => ?_)
  · obtain ⟨x, lo, hi, rfl, _⟩ := h
    rfl
  · obtain ⟨x, lo, hi, rfl, h⟩ := h
    refine ⟨_, (pss_one (ps_ret (pe_and (pe_callB call_isi (by rfl) T.b_isinstance boot_isinstance (pa_cons (pv 0) (pa_cons (pe_bltn (v := .ty "int") (by rfl) T.b_int boot_int rfl) pa_nil))) (pe_and (pe_not (pe_callB call_isi (by rfl) T.b_isinstance boot_isinstance (pa_cons (pv 0) (pa_cons (pe_bltn (v := .ty "bool") (by rfl) T.b_bool boot_bool rfl) pa_nil)))) (pe_one (pe_chain op_le op_le (pv 1) (pv 0) (pv 2))))))), ?_⟩
    rcases h with ⟨i, rfl, rfl⟩ | ⟨h, rfl⟩
    · refine rt_ret (ev_is (ev_andV (a := true) (b := decide (lo ≤ i) && decide (i ≤ hi)) (ev_isi (ev_var rfl) ev_c (.ty "int") (tyi i) kii) fun _ => ev_is (ev_andV (a := true) (b := decide (lo ≤ i) && decide (i ≤ hi)) (ev_notV (a := false) (ev_isi (ev_var rfl) ev_c (.ty "bool") (tyi i) kib)) fun _ => ev_chain (ev_var rfl) (ev_var rfl) rv_I0 (fun _ => ev_var rfl) fun _ => rv_I0) (by rw [Bool.true_and])) (by rw [Bool.true_and]))
    · rcases h with ⟨q, rfl⟩ | ⟨n, hn, hk⟩
      · refine rt_ret (ev_is (ev_andV (a := true) (b := false) (ev_isi (ev_var rfl) ev_c (.ty "int") (tyb q) kbi) fun _ => ev_is (ev_andV (a := false) (b := false) (ev_notV (a := true) (ev_isi (ev_var rfl) ev_c (.ty "bool") (tyb q) kbb)) fun z => by cases z) rfl) rfl)
      · refine rt_ret (ev_andV (a := false) (b := false) (ev_isi (ev_var rfl) ev_c (.ty "int") hn (kit_ty hk)) fun z => by cases z)
theorem rWithin {H : Hp} {i lo hi : Int} {b : Bool} (h : (decide (lo ≤ i) && decide (i ≤ hi)) = b) : ∀ H1, Ex H H1 → RWithin K [.int i, .int lo, .int hi] H1 (.bl b) := fun H1 _ => ⟨.int i, lo, hi, rfl, .inl ⟨i, rfl, by rw [h]⟩⟩
end
/-! the meters' making, what is new told -/
def JInitJM2 (C : Addr) (as : List V) (x dx : Addr) (H0 H : Hp) : Prop := ∃ s f, as = [.int s, .int f] ∧ H x = some (.ins C dx (fJM s f 0 none))
def JInitWM2 (C : Addr) (as : List V) (x dx : Addr) (H0 H : Hp) : Prop := ∃ m s l, as = [.int m, .int s] ∧ H x = some (.ins C dx (fWM m s l 0 0)) ∧ H l = some (.lst []) ∧ H0 l = none
def RMetJ2 (C M : Addr) (vs : List V) (H : Hp) (W : V → Hp → Prop) : Prop := ∃ y dy s f H0, vs = [.ref y] ∧ H y = some (.ins C dy (fJar s f)) ∧ Ex H0 H ∧ W = fun v H2 => ∃ x, v = .ref x ∧ H0 x = none ∧ ∃ dx, H2 x = some (.ins M dx (fJM s f 0 none))
def RMetW2 (C M : Addr) (vs : List V) (H : Hp) (W : V → Hp → Prop) : Prop := ∃ y dy m s H0, vs = [.ref y] ∧ H y = some (.ins C dy (fWin m s)) ∧ Ex H0 H ∧ W = fun v H2 => ∃ x, v = .ref x ∧ H0 x = none ∧ ∃ dx l, H2 x = some (.ins M dx (fWM m s l 0 0)) ∧ H2 l = some (.lst []) ∧ H0 l = none
def BdAt (cJ cW : Addr) (bd : Bd) (y : Addr) (H : Hp) : Prop := match bd with
  | .jar s f => ∃ dy, H y = some (.ins cJ dy (fJar s f))
  | .win m s => ∃ dy, H y = some (.ins cW dy (fWin m s))
theorem BdAt.mono {cJ cW y : Addr} {bd : Bd} {H H' : Hp} (e : Ex H H') (h : BdAt cJ cW bd y H) : BdAt cJ cW bd y H' := by
  cases bd with
  | jar s f => exact h.imp fun d z => e _ _ z
  | win s f => exact h.imp fun d z => e _ _ z
def Bd.ok : Bd → Prop
  | .jar s f => 1 ≤ s ∧ s ≤ 1000000000000000 ∧ 0 ≤ f ∧ f ≤ 1000000000
  | .win m s => 1 ≤ m ∧ m ≤ 1000000000000000 ∧ 1 ≤ s ∧ s ≤ 1000000000000
section
variable {P : Program} {w : World} {K : PySem.W.Frag} {mg : Str → Option Value} {base : Heap} {C M cJ cW : Addr}
theorem mak_JarMeter2 {f : Addr} {fd : FuncData} (k : ClJM K C) (M : Mk K C f) (hm : mg "JarMeter" = some (.ref C)) (F : C8.Fun K "__init__" "JarMeter.__init__" s_JarMeter_init f fd) (b : Binds K fd ["self", "size", "flow"] []) : C8.Mak P w K mg base 1 "JarMeter" C (spIH C (fun as => ∃ s f : Int, as = [.int s, .int f]) (JInitJM2 C)) [] := by
  obtain ⟨cl, n1, n2, n3, n4⟩ := k
  refine C8.mak0 M hm F b .nil sc_JarMeter_init (fun vs H Q E h => ?_) (fun cdv A outer s H vs Q E hr h => ?_)
  · obtain ⟨x, dx, as, rfl, _, ⟨s, f, rfl⟩, _⟩ := h
    rfl
  · obtain ⟨x, dx, as, rfl, hx, ⟨s, f, rfl⟩, q⟩ := h
    refine ⟨_, (pss_cons (ps_fld (pv 0) (pv 1) rfl)
  (pss_cons (ps_fld (pv 0) (pv 2) rfl)
  (pss_cons (ps_fld (pv 0) pe_int rfl)
  (pss_one (ps_fld (pv 0) pe_non rfl))))), ?_⟩
    refine ⟨_, rfl, _, rfl, x, C, dx, _, rfl, hx, cl, n1, by show 0 < 1000; decide, ?_⟩
    refine ⟨_, rfl, _, rfl, x, C, dx, _, rfl, upd_same, cl, n2, by show 1 < 1000; decide, ?_⟩
    refine ⟨_, rfl, x, C, dx, _, rfl, upd_same, cl, n3, by show 2 < 1000; decide, ?_⟩
    refine ⟨_, rfl, x, C, dx, _, rfl, upd_same, cl, n4, by show 3 < 1000; decide, ?_⟩
    refine q _ (fun b o hb e => ?_) ⟨s, f, rfl, upd_same⟩
    rw [upd_ne hb, upd_ne hb, upd_ne hb, upd_ne hb]
    exact e
theorem mak_WindowMeter2 {f : Addr} {fd : FuncData} (k : ClWM K C) (M : Mk K C f) (hm : mg "WindowMeter" = some (.ref C)) (F : C8.Fun K "__init__" "WindowMeter.__init__" s_WindowMeter_init f fd) (b : Binds K fd ["self", "most", "span"] []) : C8.Mak P w K mg base 1 "WindowMeter" C (spIH C (fun as => ∃ s f : Int, as = [.int s, .int f]) (JInitWM2 C)) [] := by
  obtain ⟨cl, n1, n2, n3, n4, n5⟩ := k
  refine C8.mak0 M hm F b .nil sc_WindowMeter_init (fun vs H Q E h => ?_) (fun cdv A outer s H vs Q E hr h => ?_)
  · obtain ⟨x, dx, as, rfl, _, ⟨s, f, rfl⟩, _⟩ := h
    rfl
  · obtain ⟨x, dx, as, rfl, hx, ⟨s, f, rfl⟩, q⟩ := h
    refine ⟨_, (pss_cons (ps_fld (pv 0) (pv 1) rfl)
  (pss_cons (ps_fld (pv 0) (pv 2) rfl)
  (pss_cons (ps_fld (pv 0) (pe_lst pa_nil) rfl)
  (pss_cons (ps_fld (pv 0) pe_int rfl)
  (pss_one (ps_fld (pv 0) pe_int rfl)))))), ?_⟩
    refine ⟨_, rfl, _, rfl, x, C, dx, _, rfl, hx, cl, n1, by show 0 < 1000; decide, ?_⟩
    refine ⟨_, rfl, _, rfl, x, C, dx, _, rfl, upd_same, cl, n2, by show 1 < 1000; decide, ?_⟩
    refine ⟨by show 0 ≤ sizeLine; decide, fun l hl => ?_⟩
    have hxl : x ≠ l := fun z => by
      rw [← z, upd_same] at hl
      cases hl
    have hl0 : H l = none := by
      rw [upd_ne hxl.symm, upd_ne hxl.symm] at hl
      exact hl
    refine ⟨_, rfl, x, C, dx, _, rfl, (by rw [upd_ne hxl, upd_same]), cl, n3, by show 2 < 1000; decide, ?_⟩
    refine ⟨_, rfl, x, C, dx, _, rfl, upd_same, cl, n4, by show 3 < 1000; decide, ?_⟩
    refine ⟨_, rfl, x, C, dx, _, rfl, upd_same, cl, n5, by show 4 < 1000; decide, ?_⟩
    refine q _ (fun b o hb e => ?_) ⟨s, f, l, rfl, upd_same, ?_, hl0⟩
    · have nb : b ≠ l := fun z => by
        rw [z, hl0] at e
        cases e
      rw [upd_ne hb, upd_ne hb, upd_ne hb, upd_ne nb, upd_ne hb, upd_ne hb]
      exact e
    · rw [upd_ne hxl.symm, upd_ne hxl.symm, upd_ne hxl.symm, upd_same]
theorem met_Jar_meter2 {f : Addr} {fd : FuncData} (k : ClJar K C) (m_JarMeter : C8.Mak P w K mg base 1 "JarMeter" M (spIH M (fun as => ∃ s f : Int, as = [.int s, .int f]) (JInitJM2 M)) []) (me : Meth K C "meter" f) (F : C8.Fun K "meter" "Jar.meter" s_Jar_meter f fd) (b : Binds K fd ["self"] []) : C8.Met P w K mg base 3 C "meter" (spW (RMetJ2 C M)) [] := by
  obtain ⟨cl, n1, n2⟩ := k
  refine metW cl me F b sc_Jar_meter (fun vs H v h => ?_) (fun cdv A outer s H vs W E hr h => ?_)
  · obtain ⟨y, dy, s, f, H0, rfl, _⟩ := h
    rfl
  · obtain ⟨y, dy, s, f, H0, rfl, hy, e0, rfl⟩ := h
    refine ⟨_, (pss_one (ps_ret (C8.pe_mk m_JarMeter hr (by decide) rfl (pa_cons (pe_fld (pv 0) rfl) (pa_cons (pe_fld (pv 0) rfl) pa_nil))))), ?_⟩
    refine rtw_ret (EvW.imp (evw_makeF (vs := [.int s, .int f]) (by walk_at "tk_ev") ⟨s, f, rfl⟩) fun v H1 _ ⟨x, dx, H9, e1, nx, e9, s', f', e2, e3⟩ => ?_)
    cases e2
    exact ⟨x, e1, fresh_back e0 nx, dx, e3⟩
theorem met_Window_meter2 {f : Addr} {fd : FuncData} (k : ClWin K C) (m_WindowMeter : C8.Mak P w K mg base 1 "WindowMeter" M (spIH M (fun as => ∃ s f : Int, as = [.int s, .int f]) (JInitWM2 M)) []) (me : Meth K C "meter" f) (F : C8.Fun K "meter" "Window.meter" s_Window_meter f fd) (b : Binds K fd ["self"] []) : C8.Met P w K mg base 3 C "meter" (spW (RMetW2 C M)) [] := by
  obtain ⟨cl, n1, n2⟩ := k
  refine metW cl me F b sc_Window_meter (fun vs H v h => ?_) (fun cdv A outer s H vs W E hr h => ?_)
  · obtain ⟨y, dy, s, f, H0, rfl, _⟩ := h
    rfl
  · obtain ⟨y, dy, s, f, H0, rfl, hy, e0, rfl⟩ := h
    refine ⟨_, (pss_one (ps_ret (C8.pe_mk m_WindowMeter hr (by decide) rfl (pa_cons (pe_fld (pv 0) rfl) (pa_cons (pe_fld (pv 0) rfl) pa_nil))))), ?_⟩
    refine rtw_ret (EvW.imp (evw_makeF (vs := [.int s, .int f]) (by walk_at "tk_ev") ⟨s, f, rfl⟩) fun v H1 _ ⟨x, dx, H9, e1, nx, e9, s', f', l, e2, e3, e4, e5⟩ => ?_)
    cases e2
    exact ⟨x, e1, fresh_back e0 nx, dx, l, e3, e4, fresh_back (e0.trans e9) e5⟩
end
/-! the law's own wait: all stretches that end with the visit -/
def turnW (bd : Bd) (t : Int) (q : Int × Int) (st : Int × Int) : Option (Int × Int) :=
  if st.2 + q.2 > bd.cap then
    match bd with
    | .win _ s => some (max st.1 (q.1 + s - t), st.2 + q.2)
    | .jar m f => if f = 0 then none else some (max st.1 (q.1 + (st.2 + q.2 - m + f - 1) / f - t), st.2 + q.2)
  else some (st.1, st.2 + q.2)
def runW (bd : Bd) (t : Int) : List (Int × Int) → Int × Int → Option (Int × Int)
  | [], st => some st
  | q :: r, st => match turnW bd t q st with
    | none => none
    | some st' => runW bd t r st'
def dueV (bd : Bd) (vs : List (Int × Int)) (t c : Int) : Option Int :=
  if c > bd.cap then none else match runW bd t vs.reverse (0, c) with
    | none => none
    | some st => some st.1
theorem runW_runN (bd : Bd) (t : Int) : ∀ (r p : List (Int × Int)) (st : Int × Int), runW bd t r st = runN (fun i st => turnW bd t ((p ++ r).getD i (0, 0)) st) r.length p.length st
  | [], _, _ => rfl
  | q :: r, p, st => by
    have e0 : (p ++ q :: r).getD p.length (0, 0) = q := by
      rw [List.getD_eq_getElem?_getD, List.getElem?_append_right (Nat.le_refl _), Nat.sub_self]
      rfl
    rw [runW, List.length_cons, runN, e0]
    cases turnW bd t q st with
    | none => rfl
    | some st' =>
      have z := runW_runN bd t r (p ++ [q]) st'
      rw [List.length_append, List.append_assoc] at z
      exact z
theorem runW_eq (bd : Bd) (t : Int) (vs : List (Int × Int)) (st : Int × Int) : runW bd t vs.reverse st = runN (fun i st => turnW bd t (vs.reverse.getD i (0, 0)) st) vs.length 0 st := by
  have z := runW_runN bd t vs.reverse [] st
  rw [List.length_reverse] at z
  exact z
theorem rev_at {vs : List (Int × Int)} {i : Nat} (h : i < vs.length) : vs[vs.length - 1 - i]? = some (vs.reverse.getD i (0, 0)) := by
  rw [List.getD_eq_getElem?_getD, List.getElem?_reverse h, List.getElem?_eq_getElem (by omega)]
  rfl
/-! the mathematics of the jar: its level is the most that some stretch has beyond the flow -/
def pk (f t : Int) : List (Int × Int) → Int → Int → Int
  | [], _, best => best
  | q :: r, u, best => pk f t r (u + q.2) (max best (u + q.2 - f * (t - q.1)))
theorem pk_max (f t : Int) : ∀ (r : List (Int × Int)) (u a b : Int), pk f t r u (max a b) = max a (pk f t r u b)
  | [], _, _, _ => rfl
  | q :: r, u, a, b => by
    show pk f t r (u + q.2) (max (max a b) (u + q.2 - f * (t - q.1))) = max a (pk f t r (u + q.2) (max b (u + q.2 - f * (t - q.1))))
    rw [← pk_max f t r (u + q.2) a, show max (max a b) (u + q.2 - f * (t - q.1)) = max a (max b (u + q.2 - f * (t - q.1))) by omega]
theorem pk_ge (f t : Int) (r : List (Int × Int)) (u b : Int) : b ≤ pk f t r u b := by
  have z := pk_max f t r u b b
  rw [show max b b = b by omega] at z
  omega
theorem pk_u (f t d : Int) : ∀ (r : List (Int × Int)) (u b : Int), pk f t r (u + d) (b + d) = pk f t r u b + d
  | [], _, _ => rfl
  | q :: r, u, b => by
    show pk f t r (u + d + q.2) (max (b + d) (u + d + q.2 - f * (t - q.1))) = pk f t r (u + q.2) (max b (u + q.2 - f * (t - q.1))) + d
    rw [← pk_u f t d r, show u + d + q.2 = u + q.2 + d by omega, show max (b + d) (u + q.2 + d - f * (t - q.1)) = max b (u + q.2 - f * (t - q.1)) + d by omega]
theorem pk_t (f t t' : Int) : ∀ (r : List (Int × Int)) (u b : Int), pk f t' r u (b - f * (t' - t)) = pk f t r u b - f * (t' - t)
  | [], _, _ => rfl
  | q :: r, u, b => by
    show pk f t' r (u + q.2) (max (b - f * (t' - t)) (u + q.2 - f * (t' - q.1))) = pk f t r (u + q.2) (max b (u + q.2 - f * (t - q.1))) - f * (t' - t)
    have e : f * (t' - q.1) = f * (t - q.1) + f * (t' - t) := by rw [← Int.mul_add]; congr 1; omega
    rw [← pk_t f t t' r, show max (b - f * (t' - t)) (u + q.2 - f * (t' - q.1)) = max b (u + q.2 - f * (t - q.1)) - f * (t' - t) by omega]
/-- every moment is at most t -/
def Upto (vs : List (Int × Int)) (t : Int) : Prop := ∀ q ∈ vs, q.1 ≤ t
structure JRel (f : Int) (vs : List (Int × Int)) (l : Int) (m : Option Int) : Prop where
  lev : ∀ t, Upto vs t → levV f l m t = pk f t vs.reverse 0 0
  mm : l ≠ 0 → ∃ i, m = some i
theorem jrel_nil (f : Int) : JRel f [] 0 none := ⟨fun _ _ => rfl, fun h => absurd rfl h⟩
theorem lev_nn (f l : Int) (m : Option Int) (t : Int) : 0 ≤ levV f l m t := by
  unfold levV
  by_cases h : l = 0
  · rw [if_pos h]; exact Int.le_refl _
  · rw [if_neg h]; omega
theorem jrel_take {f l : Int} {m : Option Int} {vs : List (Int × Int)} {t c : Int} (h : JRel f vs l m) (hu : Upto vs t) (hc : 1 ≤ c) : JRel f (vs ++ [(t, c)]) (levV f l m t + c) (some t) := by
  refine ⟨fun t' hu' => ?_, fun _ => ⟨t, rfl⟩⟩
  have l0 := lev_nn f l m t
  have e0 := h.lev t hu
  have hne : ¬ levV f l m t + c = 0 := by omega
  rw [List.reverse_append]
  show levV f (levV f l m t + c) (some t) t' = pk f t' vs.reverse (0 + c) (max 0 (0 + c - f * (t' - t)))
  rw [Int.zero_add, pk_max, pk_t f t t' vs.reverse c c]
  have e1 : pk f t vs.reverse c c = pk f t vs.reverse 0 0 + c := by
    have z := pk_u f t c vs.reverse 0 0
    rw [Int.zero_add] at z
    exact z
  rw [e1, ← e0]
  generalize levV f l m t = L at *
  unfold levV
  rw [if_neg hne]
  rfl
theorem cd_mono {f x y : Int} (hf : 0 < f) (h : x ≤ y) : (x + f - 1) / f ≤ (y + f - 1) / f := Int.ediv_le_ediv hf (by omega)
theorem cd_max {f x y : Int} (hf : 0 < f) : (max x y + f - 1) / f = max ((x + f - 1) / f) ((y + f - 1) / f) := by
  rcases Int.le_total x y with h | h
  · have z := cd_mono hf h
    rw [show max x y = y by omega]
    omega
  · have z := cd_mono hf h
    rw [show max x y = x by omega]
    omega
theorem cd_low {f x : Int} (hf : 0 < f) (h : x ≤ 0) : (x + f - 1) / f ≤ 0 := by
  have z := cd_mono hf h
  have e : (0 + f - 1) / f = 0 := Int.ediv_eq_zero_of_lt (by omega) (by omega)
  omega
theorem cd_up {f x : Int} (hf : 0 < f) (h : 0 < x) : 1 ≤ (x + f - 1) / f := by
  have z := Int.ediv_le_ediv hf (show f ≤ x + f - 1 by omega)
  rw [Int.ediv_self (by omega)] at z
  exact z
theorem cd_mul {f x : Int} (hf : 0 < f) : x ≤ f * ((x + f - 1) / f) := by
  have z := Int.lt_mul_ediv_self_add (x := x + f - 1) hf
  omega
theorem cd_shift {f y d : Int} (hf : 0 < f) : (y - f * d + f - 1) / f = (y + f - 1) / f - d := by
  rw [show y - f * d + f - 1 = (y + f - 1) + f * (-d) by rw [Int.mul_neg]; omega, Int.add_mul_ediv_left _ _ (by omega)]
  omega
theorem run0 (s t : Int) : ∀ (r : List (Int × Int)) (u b : Int), b ≤ s → runW (.jar s 0) t r (0, u) = if pk 0 t r u b > s then none else some (0, u + (r.map (·.2)).sum)
  | [], u, b, h => by
    show some (0, u) = if b > s then none else some (0, u + 0)
    rw [if_neg (by omega), Int.add_zero]
  | q :: r, u, b, h => by
    show (match turnW (.jar s 0) t q (0, u) with | none => none | some st' => runW (.jar s 0) t r st') = if pk 0 t r (u + q.2) (max b (u + q.2 - 0 * (t - q.1))) > s then none else some (0, u + ((q :: r).map (·.2)).sum)
    have ez : u + q.2 - 0 * (t - q.1) = u + q.2 := by rw [Int.zero_mul, Int.sub_zero]
    rw [ez]
    unfold turnW
    by_cases hu : u + q.2 > s
    · have g := pk_ge 0 t r (u + q.2) (max b (u + q.2))
      rw [if_pos (show ((0, u) : Int × Int).2 + q.2 > (Bd.jar s 0).cap from hu), if_pos (show pk 0 t r (u + q.2) (max b (u + q.2)) > s by omega)]
      rfl
    · rw [if_neg (show ¬ ((0, u) : Int × Int).2 + q.2 > (Bd.jar s 0).cap from hu)]
      show runW (.jar s 0) t r (0, u + q.2) = _
      rw [run0 s t r (u + q.2) (max b (u + q.2)) (by omega), List.map_cons, List.sum_cons, Int.add_assoc]
theorem runP {s f t : Int} (hf : 0 < f) : ∀ (r : List (Int × Int)) (u b fd : Int), Upto r t → fd = max 0 ((b - s + f - 1) / f) → ∃ U, runW (.jar s f) t r (fd, u) = some (max 0 ((pk f t r u b - s + f - 1) / f), U)
  | [], u, b, fd, _, h => ⟨u, by rw [h]; rfl⟩
  | q :: r, u, b, fd, hq, h => by
    have hm := hq q List.mem_cons_self
    have hr : Upto r t := fun x hx => hq x (List.mem_cons_of_mem _ hx)
    have hprod : 0 ≤ f * (t - q.1) := Int.mul_nonneg (by omega) (by omega)
    have key : ∀ fd', fd' = max 0 ((max b (u + q.2 - f * (t - q.1)) - s + f - 1) / f) → turnW (.jar s f) t q (fd, u) = some (fd', u + q.2) → ∃ U, runW (.jar s f) t (q :: r) (fd, u) = some (max 0 ((pk f t (q :: r) u b - s + f - 1) / f), U) := fun fd' e1 e2 => by
      obtain ⟨U, z⟩ := runP hf r (u + q.2) (max b (u + q.2 - f * (t - q.1))) fd' hr e1
      exact ⟨U, by rw [runW, e2]; exact z⟩
    have em : max b (u + q.2 - f * (t - q.1)) - s = max (b - s) (u + q.2 - s - f * (t - q.1)) := by omega
    by_cases hu : u + q.2 > s
    · refine key (max fd (q.1 + (u + q.2 - s + f - 1) / f - t)) ?_ ?_
      · rw [em, cd_max hf, cd_shift hf, h]
        omega
      · unfold turnW
        rw [if_pos (show ((fd, u) : Int × Int).2 + q.2 > (Bd.jar s f).cap from hu)]
        show (if f = 0 then none else some (max fd (q.1 + (u + q.2 - s + f - 1) / f - t), u + q.2)) = _
        rw [if_neg (by omega)]
    · refine key fd ?_ ?_
      · rw [em, cd_max hf, h]
        have z := cd_low hf (show u + q.2 - s - f * (t - q.1) ≤ 0 by omega)
        omega
      · unfold turnW
        rw [if_neg (show ¬ ((fd, u) : Int × Int).2 + q.2 > (Bd.jar s f).cap from hu)]
theorem due_jar {s f l t c : Int} {m : Option Int} {vs : List (Int × Int)} (h : JRel f vs l m) (hu : Upto vs t) (hf : 0 ≤ f) : dueV (.jar s f) vs t c = waitJ s f l m t c := by
  unfold dueV waitJ
  by_cases hc : c > s
  · rw [if_pos (show c > (Bd.jar s f).cap from hc), if_pos hc]
  · rw [if_neg (show ¬ c > (Bd.jar s f).cap from hc), if_neg hc]
    have e1 : pk f t vs.reverse c c = levV f l m t + c := by
      have z := pk_u f t c vs.reverse 0 0
      rw [Int.zero_add, ← h.lev t hu] at z
      exact z
    have hur : Upto vs.reverse t := fun q hq => hu q (List.mem_reverse.mp hq)
    by_cases h0 : f = 0
    · subst h0
      rw [run0 s t vs.reverse c c (by omega), e1]
      by_cases hx : levV 0 l m t + c > s
      · rw [if_pos hx, if_neg (by omega), if_pos rfl]
      · rw [if_neg hx, if_pos (by omega)]
    · have hf' : 0 < f := by omega
      obtain ⟨U, z⟩ := runP (s := s) hf' vs.reverse c c 0 hur (by
        have := cd_low (f := f) (x := c - s) hf' (by omega)
        omega)
      rw [z, e1]
      show some (max 0 ((levV f l m t + c - s + f - 1) / f)) = _
      by_cases hx : levV f l m t + c - s ≤ 0
      · have := cd_low hf' hx
        rw [if_pos hx]
        congr 1
        omega
      · have := cd_up hf' (show 0 < levV f l m t + c - s by omega)
        rw [if_neg hx, if_neg h0]
        congr 1
        omega
theorem wait_can {s f l t c : Int} {m : Option Int} (hf : 0 ≤ f) : waitJ s f l m t c = some 0 ↔ levV f l m t + c ≤ s := by
  have l0 := lev_nn f l m t
  unfold waitJ
  by_cases hc : c > s
  · rw [if_pos hc]
    exact ⟨fun h => (by cases h), fun h => by omega⟩
  · rw [if_neg hc]
    by_cases hx : levV f l m t + c - s ≤ 0
    · rw [if_pos hx]
      exact ⟨fun _ => by omega, fun _ => rfl⟩
    · rw [if_neg hx]
      by_cases h0 : f = 0
      · rw [if_pos h0]
        exact ⟨fun h => (by cases h), fun h => by omega⟩
      · rw [if_neg h0]
        have := cd_up (show 0 < f by omega) (show 0 < levV f l m t + c - s by omega)
        exact ⟨fun h => by
          have := Option.some.inj h
          omega, fun h => by omega⟩
theorem wait_nn {s f l t c w : Int} {m : Option Int} (hf : 0 ≤ f) (h : waitJ s f l m t c = some w) : 0 ≤ w := by
  unfold waitJ at h
  split at h
  · cases h
  · split at h
    · cases h; omega
    · split at h
      · cases h
      · cases h
        rename_i h1 h2 h3
        have := cd_up (show 0 < f by omega) (show 0 < levV f l m t + c - s by omega)
        omega
/-- behind its wait it can -/
theorem wait_after {s f l t c w : Int} {m : Option Int} (hf : 0 ≤ f) (h : waitJ s f l m t c = some w) : waitJ s f l m (t + w) c = some 0 := by
  rw [wait_can hf]
  have hw := wait_nn hf h
  unfold waitJ at h
  split at h
  · cases h
  · rename_i hc
    split at h
    · rename_i h1
      cases h
      rw [Int.add_zero]
      omega
    · rename_i h1
      split at h
      · cases h
      · rename_i h3
        have hf' : 0 < f := by omega
        have z := cd_mul (f := f) (x := levV f l m t + c - s) hf'
        rw [Option.some.inj h] at z
        unfold levV at z h1 ⊢
        by_cases hl : l = 0
        · rw [if_pos hl] at h1
          omega
        · rw [if_neg hl] at z h1 ⊢
          have e : f * (t + w - m.getD 0) = f * (t - m.getD 0) + f * w := by rw [← Int.mul_add]; congr 1; omega
          rw [e]
          omega
/-! the mathematics of the window -/
def pre (vs : List (Int × Int)) (i : Nat) : Int := ((vs.take i).map (·.2)).sum
def tots : Int → List (Int × Int) → List (Int × Int)
  | _, [] => []
  | a, q :: r => (q.1, a + q.2) :: tots (a + q.2) r
theorem tots_len : ∀ (a : Int) (vs : List (Int × Int)), (tots a vs).length = vs.length
  | _, [] => rfl
  | a, q :: r => by rw [tots, List.length_cons, List.length_cons, tots_len]
theorem pre_zero (vs : List (Int × Int)) : pre vs 0 = 0 := rfl
theorem pre_cons (q : Int × Int) (r : List (Int × Int)) (i : Nat) : pre (q :: r) (i + 1) = q.2 + pre r i := by
  unfold pre
  rw [List.take_succ_cons, List.map_cons, List.sum_cons]
theorem tots_at : ∀ (a : Int) (vs : List (Int × Int)) (i : Nat), i < vs.length → (tots a vs).getD i (0, 0) = ((vs.getD i (0, 0)).1, a + pre vs (i + 1))
  | _, [], _, h => absurd h (Nat.not_lt_zero _)
  | a, q :: r, 0, _ => by
    show (q.1, a + q.2) = (q.1, a + pre (q :: r) 1)
    rw [pre_cons, pre_zero, Int.add_zero]
  | a, q :: r, i + 1, h => by
    show (tots (a + q.2) r).getD i (0, 0) = ((r.getD i (0, 0)).1, a + pre (q :: r) (i + 1 + 1))
    rw [tots_at (a + q.2) r i (Nat.lt_of_succ_lt_succ h), pre_cons, Int.add_assoc]
theorem tots_snoc : ∀ (a : Int) (vs : List (Int × Int)) (q : Int × Int), tots a (vs ++ [q]) = tots a vs ++ [(q.1, a + pre vs vs.length + q.2)]
  | a, [], q => by
    show [(q.1, a + q.2)] = [(q.1, a + 0 + q.2)]
    rw [Int.add_zero]
  | a, x :: r, q => by
    show (x.1, a + x.2) :: tots (a + x.2) (r ++ [q]) = (x.1, a + x.2) :: (tots (a + x.2) r ++ [_])
    rw [tots_snoc, List.length_cons, pre_cons, show a + x.2 + pre r r.length + q.2 = a + (x.2 + pre r r.length) + q.2 by omega]
theorem pre_succ : ∀ (vs : List (Int × Int)) (i : Nat), i < vs.length → pre vs (i + 1) = pre vs i + (vs.getD i (0, 0)).2
  | [], _, h => absurd h (Nat.not_lt_zero _)
  | q :: r, 0, _ => by
    rw [pre_cons, pre_zero, pre_zero]
    show q.2 + 0 = 0 + q.2
    omega
  | q :: r, i + 1, h => by
    rw [pre_cons, pre_cons, pre_succ r i (Nat.lt_of_succ_lt_succ h)]
    show q.2 + (pre r i + (r.getD i (0, 0)).2) = q.2 + pre r i + (r.getD i (0, 0)).2
    omega
theorem pre_all (vs ws : List (Int × Int)) : ∀ i, i ≤ vs.length → pre (vs ++ ws) i = pre vs i := fun i h => by
  unfold pre
  rw [List.take_append_of_le_length h]
/-- costs are at least one; moments rise -/
structure VOk (vs : List (Int × Int)) : Prop where
  cost : ∀ i, i < vs.length → 1 ≤ (vs.getD i (0, 0)).2
  rise : ∀ i j, i ≤ j → j < vs.length → (vs.getD i (0, 0)).1 ≤ (vs.getD j (0, 0)).1
theorem pre_lt {vs : List (Int × Int)} (h : VOk vs) : ∀ {i j : Nat}, i < j → j ≤ vs.length → pre vs i < pre vs j := fun {i j} hij hj => by
  induction j with
  | zero => exact absurd hij (Nat.not_lt_zero _)
  | succ j ih =>
    have hc := h.cost j hj
    rw [pre_succ vs j hj]
    by_cases e : i = j
    · subst e; omega
    · have := ih (by omega) (by omega)
      omega
theorem pre_le {vs : List (Int × Int)} (h : VOk vs) {i j : Nat} (hij : i ≤ j) (hj : j ≤ vs.length) : pre vs i ≤ pre vs j := by
  by_cases e : i = j
  · subst e; exact Int.le_refl _
  · exact Int.le_of_lt (pre_lt h (by omega) hj)
theorem runWin {m s t : Int} : ∀ (r : List (Int × Int)) (fd u : Int), ∃ F U, runW (.win m s) t r (fd, u) = some (F, U) ∧ fd ≤ F ∧
    (∀ k, k < r.length → u + pre r (k + 1) > m → (r.getD k (0, 0)).1 + s - t ≤ F) ∧ (F = fd ∨ ∃ k, k < r.length ∧ u + pre r (k + 1) > m ∧ F = (r.getD k (0, 0)).1 + s - t)
  | [], fd, u => ⟨fd, u, rfl, Int.le_refl _, fun _ h => absurd h (Nat.not_lt_zero _), .inl rfl⟩
  | q :: r, fd, u => by
    by_cases hu : u + q.2 > m
    · obtain ⟨F, U, h1, h2, h3, h4⟩ := runWin (m := m) (s := s) (t := t) r (max fd (q.1 + s - t)) (u + q.2)
      refine ⟨F, U, ?_, by omega, fun k hk hp => ?_, ?_⟩
      · rw [runW, turnW, if_pos (show ((fd, u) : Int × Int).2 + q.2 > (Bd.win m s).cap from hu)]
        exact h1
      · cases k with
        | zero =>
          show q.1 + s - t ≤ F
          omega
        | succ k =>
          rw [pre_cons] at hp
          exact h3 k (Nat.lt_of_succ_lt_succ hk) (by omega)
      · rcases h4 with h4 | ⟨k, k1, k2, k3⟩
        · rcases Int.le_total fd (q.1 + s - t) with hle | hle
          · refine .inr ⟨0, Nat.succ_pos _, ?_, ?_⟩
            · rw [pre_cons, pre_zero]
              omega
            · show F = q.1 + s - t
              omega
          · exact .inl (by omega)
        · refine .inr ⟨k + 1, Nat.succ_lt_succ k1, ?_, k3⟩
          rw [pre_cons]
          omega
    · obtain ⟨F, U, h1, h2, h3, h4⟩ := runWin (m := m) (s := s) (t := t) r fd (u + q.2)
      refine ⟨F, U, ?_, h2, fun k hk hp => ?_, ?_⟩
      · rw [runW, turnW, if_neg (show ¬ ((fd, u) : Int × Int).2 + q.2 > (Bd.win m s).cap from hu)]
        exact h1
      · cases k with
        | zero =>
          rw [pre_cons, pre_zero] at hp
          omega
        | succ k =>
          rw [pre_cons] at hp
          exact h3 k (Nat.lt_of_succ_lt_succ hk) (by omega)
      · rcases h4 with h4 | ⟨k, k1, k2, k3⟩
        · exact .inl h4
        · refine .inr ⟨k + 1, Nat.succ_lt_succ k1, ?_, k3⟩
          rw [pre_cons]
          omega
theorem sum_rev (l : List Int) : l.reverse.sum = l.sum := by
  induction l with
  | nil => rfl
  | cons a l ih =>
    rw [List.reverse_cons, List.sum_append, List.sum_cons, ih]
    simp [Int.add_comm]
theorem pre_rev (vs : List (Int × Int)) (k : Nat) (hk : k ≤ vs.length) : pre vs.reverse k = pre vs vs.length - pre vs (vs.length - k) := by
  have e1 : pre vs.reverse k = ((vs.drop (vs.length - k)).map (·.2)).sum := by
    unfold pre
    rw [List.take_reverse, List.map_reverse, sum_rev]
  have e2 : pre vs vs.length = pre vs (vs.length - k) + ((vs.drop (vs.length - k)).map (·.2)).sum := by
    unfold pre
    rw [← List.sum_append, ← List.map_append, List.take_append_drop, List.take_length]
  omega
theorem rev_getD (vs : List (Int × Int)) (k : Nat) (hk : k < vs.length) : vs.reverse.getD k (0, 0) = vs.getD (vs.length - 1 - k) (0, 0) := by
  have z := rev_at hk
  rw [getD_some (show vs.length - 1 - k < vs.length by omega)] at z
  exact (Option.some.inj z).symm
/-- the law's wait by a window -/
theorem due_win (m s : Int) (vs : List (Int × Int)) (t c : Int) (hc : ¬ c > m) : ∃ F, dueV (.win m s) vs t c = some F ∧ 0 ≤ F ∧
    (∀ i, i < vs.length → pre vs i < pre vs vs.length + c - m → (vs.getD i (0, 0)).1 + s - t ≤ F) ∧ (F = 0 ∨ ∃ i, i < vs.length ∧ pre vs i < pre vs vs.length + c - m ∧ F = (vs.getD i (0, 0)).1 + s - t) := by
  obtain ⟨F, U, h1, h2, h3, h4⟩ := runWin (m := m) (s := s) (t := t) vs.reverse 0 c
  rw [List.length_reverse] at h3 h4
  refine ⟨F, ?_, h2, fun i hi hp => ?_, ?_⟩
  · unfold dueV
    rw [if_neg (show ¬ c > (Bd.win m s).cap from hc), h1]
  · have z := h3 (vs.length - 1 - i) (by omega) (by
      rw [pre_rev vs _ (by omega), show vs.length - (vs.length - 1 - i + 1) = i by omega]
      omega)
    rw [rev_getD vs _ (by omega), show vs.length - 1 - (vs.length - 1 - i) = i by omega] at z
    exact z
  · rcases h4 with h4 | ⟨k, k1, k2, k3⟩
    · exact .inl h4
    · refine .inr ⟨vs.length - 1 - k, by omega, ?_, ?_⟩
      · rw [pre_rev vs _ (by omega), show vs.length - (k + 1) = vs.length - 1 - k by omega] at k2
        omega
      · rw [rev_getD vs k k1] at k3
        exact k3
structure WRel (s : Int) (vs : List (Int × Int)) (g tot : Int) (rs : List (Int × Int)) : Prop where
  ex : ∃ d, d ≤ vs.length ∧ rs = (tots 0 vs).drop d ∧ g = pre vs d ∧ tot = pre vs vs.length ∧ (∀ i j, i < d → j = vs.length - 1 → (vs.getD i (0, 0)).1 + s ≤ (vs.getD j (0, 0)).1) ∧ (∀ i j, d ≤ i → i < vs.length → j = vs.length - 1 → (vs.getD j (0, 0)).1 < (vs.getD i (0, 0)).1 + s)
theorem wrel_nil (s : Int) : WRel s [] 0 0 [] := ⟨0, Nat.le_refl _, rfl, rfl, rfl, fun _ _ h => absurd h (Nat.not_lt_zero _), fun _ _ _ h => absurd h (Nat.not_lt_zero _)⟩
theorem drop_getD (l : List (Int × Int)) (d i : Nat) : (l.drop d).getD i (0, 0) = l.getD (d + i) (0, 0) := by
  rw [List.getD_eq_getElem?_getD, List.getElem?_drop, ← List.getD_eq_getElem?_getD]
theorem WRel.row {s : Int} {vs : List (Int × Int)} {g tot : Int} {rs : List (Int × Int)} {d : Nat} (hrs : rs = (tots 0 vs).drop d) {i : Nat} (hi : d + i < vs.length) : rs.getD i (0, 0) = ((vs.getD (d + i) (0, 0)).1, pre vs (d + i + 1)) := by
  rw [hrs, drop_getD, tots_at 0 vs _ hi, Int.zero_add]
theorem WRel.wok {s : Int} {vs : List (Int × Int)} {g tot : Int} {rs : List (Int × Int)} (h : WRel s vs g tot rs) (hv : VOk vs) (hn : vs.length ≤ 1000) : WOk g tot rs := by
  obtain ⟨d, hd, hrs, hg, ht, _, _⟩ := h.ex
  have hl : rs.length = vs.length - d := by rw [hrs, List.length_drop, tots_len]
  refine ⟨fun i j hij hj => ?_, fun e => ?_, fun e => ?_, by omega⟩
  · rw [WRel.row hrs (s := s) (g := g) (tot := tot) (by omega), WRel.row hrs (s := s) (g := g) (tot := tot) (by omega)]
    exact pre_le hv (by omega) (by omega)
  · rw [e] at hl
    have : d = vs.length := by
      have : ([] : List (Int × Int)).length = 0 := rfl
      omega
    rw [hg, ht, this]
    exact Int.le_refl _
  · have hp := List.length_pos_iff.mpr e
    rw [WRel.row hrs (s := s) (g := g) (tot := tot) (by omega), ht, show d + (rs.length - 1) + 1 = vs.length by omega]
    exact Int.le_refl _
theorem due_win_is {m s g tot t c : Int} {vs rs : List (Int × Int)} (h : WRel s vs g tot rs) (hv : VOk vs) (hu : Upto vs t) (hc : 1 ≤ c) : dueV (.win m s) vs t c = waitW m s g tot rs t c := by
  by_cases hcm : c > m
  · unfold dueV waitW
    rw [if_pos (show c > (Bd.win m s).cap from hcm), if_pos hcm]
  · obtain ⟨F, e, f0, f1, f2⟩ := due_win m s vs t c hcm
    obtain ⟨d, hd, hrs, hg, ht, ho, _⟩ := h.ex
    have hl : rs.length = vs.length - d := by rw [hrs, List.length_drop, tots_len]
    rw [e]
    unfold waitW
    rw [if_neg hcm]
    by_cases hdue : tot + c - m ≤ g
    · rw [if_pos hdue]
      rcases f2 with f2 | ⟨i, i1, i2, i3⟩
      · rw [f2]
      · have hid : i < d := by
          refine Nat.lt_of_not_le fun hle => ?_
          have := pre_le hv hle (by omega)
          omega
        have hlast := ho i (vs.length - 1) hid rfl
        have hm := hu (vs.getD (vs.length - 1) (0, 0)) (by
          rw [List.getD_eq_getElem?_getD, List.getElem?_eq_getElem (by omega)]
          exact List.getElem_mem _)
        congr 1
        omega
    · rw [if_neg hdue]
      have ok := fun hn => h.wok hv (hn : vs.length ≤ 1000)
      have hdn : d < vs.length := by
        refine Nat.lt_of_not_le fun hle => ?_
        have : d = vs.length := by omega
        rw [this] at hg
        omega
      have hne : rs ≠ [] := fun z => by
        rw [z] at hl
        have : ([] : List (Int × Int)).length = 0 := rfl
        omega
      have hlt : firstGe rs (tot + c - m) < rs.length := firstGe_lt hne (by
        rw [WRel.row hrs (s := s) (g := g) (tot := tot) (by omega), show d + (rs.length - 1) + 1 = vs.length by omega]
        show tot + c - m ≤ pre vs vs.length
        omega)
      have hge := firstGe_ge hlt
      have hrow := WRel.row hrs (s := s) (g := g) (tot := tot) (i := firstGe rs (tot + c - m)) (by omega)
      rw [hrow] at hge ⊢
      have hbefore : pre vs (d + firstGe rs (tot + c - m)) < tot + c - m := by
        by_cases hz : firstGe rs (tot + c - m) = 0
        · rw [hz, Nat.add_zero, ← hg]
          omega
        · have hb := firstGe_before (rs := rs) (due := tot + c - m) (i := firstGe rs (tot + c - m) - 1) (by omega)
          rw [WRel.row hrs (s := s) (g := g) (tot := tot) (by omega), show d + (firstGe rs (tot + c - m) - 1) + 1 = d + firstGe rs (tot + c - m) by omega] at hb
          exact hb
      generalize firstGe rs (tot + c - m) = j at *
      have h1 := f1 (d + j) (by omega) (by omega)
      congr 1
      rcases f2 with f2 | ⟨i, i1, i2, i3⟩
      · show F = max 0 ((vs.getD (d + j) (0, 0)).1 + s - t)
        omega
      · have hij : i ≤ d + j := by
          refine Nat.le_of_not_lt fun hlt2 => ?_
          have := pre_le hv (show d + j + 1 ≤ i by omega) (by omega)
          have hge' : tot + c - m ≤ pre vs (d + j + 1) := hge
          omega
        have hr := hv.rise i (d + j) hij (by omega)
        show F = max 0 ((vs.getD (d + j) (0, 0)).1 + s - t)
        omega
theorem waitW_nn {m s g tot t c w : Int} {rs : List (Int × Int)} (h : waitW m s g tot rs t c = some w) : 0 ≤ w := by
  unfold waitW at h
  split at h
  · cases h
  · split at h <;> (cases h; omega)
theorem waitW_after {m s g tot t c w : Int} {rs : List (Int × Int)} (h : waitW m s g tot rs t c = some w) : waitW m s g tot rs (t + w) c = some 0 := by
  unfold waitW at h ⊢
  by_cases h1 : c > m
  · rw [if_pos h1] at h; cases h
  · rw [if_neg h1] at h ⊢
    by_cases h2 : tot + c - m ≤ g
    · rw [if_pos h2]
    · rw [if_neg h2] at h ⊢
      have := Option.some.inj h
      congr 1
      omega
theorem getD_snoc_lt (vs : List (Int × Int)) (q : Int × Int) {i : Nat} (h : i < vs.length) : (vs ++ [q]).getD i (0, 0) = vs.getD i (0, 0) := by
  rw [List.getD_eq_getElem?_getD, List.getD_eq_getElem?_getD, List.getElem?_append_left h]
theorem getD_snoc_eq (vs : List (Int × Int)) (q : Int × Int) : (vs ++ [q]).getD vs.length (0, 0) = q := by
  rw [List.getD_eq_getElem?_getD, List.getElem?_append_right (Nat.le_refl _), Nat.sub_self]
  rfl
theorem VOk.snoc {vs : List (Int × Int)} {t c : Int} (h : VOk vs) (hu : Upto vs t) (hc : 1 ≤ c) : VOk (vs ++ [(t, c)]) := by
  refine ⟨fun i hi => ?_, fun i j hij hj => ?_⟩
  · rw [List.length_append] at hi
    by_cases e : i = vs.length
    · subst e
      rw [getD_snoc_eq]
      exact hc
    · rw [getD_snoc_lt vs _ (by have : [(t, c)].length = 1 := rfl; omega)]
      exact h.cost i (by have : [(t, c)].length = 1 := rfl; omega)
  · rw [List.length_append] at hj
    have l1 : [(t, c)].length = 1 := rfl
    by_cases e : j = vs.length
    · subst e
      rw [getD_snoc_eq]
      by_cases e2 : i = vs.length
      · subst e2
        rw [getD_snoc_eq]
        exact Int.le_refl _
      · rw [getD_snoc_lt vs _ (by omega)]
        refine hu _ ?_
        rw [List.getD_eq_getElem?_getD, List.getElem?_eq_getElem (by omega)]
        exact List.getElem_mem _
    · rw [getD_snoc_lt vs _ (by omega), getD_snoc_lt vs _ (by omega)]
      exact h.rise i j hij (by omega)
theorem upto_snoc {vs : List (Int × Int)} {t c : Int} (h : Upto vs t) : Upto (vs ++ [(t, c)]) t := fun q hq => by
  rcases List.mem_append.mp hq with hq | hq
  · exact h q hq
  · rw [List.mem_singleton.mp hq]
    exact Int.le_refl _
theorem wrel_take {s g tot t c : Int} {vs rs : List (Int × Int)} (h : WRel s vs g tot rs) (hv : VOk vs) (hu : Upto vs t) (hs : 1 ≤ s) : WRel s (vs ++ [(t, c)]) (goneV rs (oldN rs (t - s)) g) (tot + c) (rs.drop (oldN rs (t - s)) ++ [(t, tot + c)]) := by
  obtain ⟨d, hd, hrs, hg, ht, ho, hk⟩ := h.ex
  have hl : rs.length = vs.length - d := by rw [hrs, List.length_drop, tots_len]
  have hle := oldN_le rs (t - s)
  have l1 : (vs ++ [(t, c)]).length = vs.length + 1 := by rw [List.length_append]; rfl
  refine ⟨d + oldN rs (t - s), by omega, ?_, ?_, ?_, fun i j hi hj => ?_, fun i j hi hi2 hj => ?_⟩
  · rw [tots_snoc, List.drop_append_of_le_length (by rw [tots_len]; omega), hrs, List.drop_drop, ← hrs, Int.zero_add, ht]
  · rw [pre_all _ _ _ (by omega)]
    unfold goneV
    by_cases e : oldN rs (t - s) = 0
    · rw [if_pos e, e, Nat.add_zero]
      exact hg
    · rw [if_neg e, WRel.row hrs (s := s) (g := g) (tot := tot) (by omega)]
      show pre vs (d + (oldN rs (t - s) - 1) + 1) = _
      rw [show d + (oldN rs (t - s) - 1) + 1 = d + oldN rs (t - s) by omega]
  · rw [l1, pre_succ _ _ (by omega), getD_snoc_eq, pre_all _ _ _ (Nat.le_refl _), ht]
  · rw [hj, l1, Nat.add_sub_cancel, getD_snoc_eq, getD_snoc_lt vs _ (by omega)]
    show (vs.getD i (0, 0)).1 + s ≤ t
    by_cases e : i < d
    · have z := ho i (vs.length - 1) e rfl
      have hm := hu (vs.getD (vs.length - 1) (0, 0)) (by
        rw [List.getD_eq_getElem?_getD, List.getElem?_eq_getElem (by omega)]
        exact List.getElem_mem _)
      omega
    · have z := oldN_in rs (t - s) (i - d) (by omega)
      rw [WRel.row hrs (s := s) (g := g) (tot := tot) (by omega), show d + (i - d) = i by omega] at z
      have z : (vs.getD i (0, 0)).1 ≤ t - s := z
      omega
  · rw [hj, l1, Nat.add_sub_cancel, getD_snoc_eq]
    show t < _
    by_cases e : i = vs.length
    · rw [e, getD_snoc_eq]
      show t < t + s
      omega
    · rw [getD_snoc_lt vs _ (by omega)]
      have z := oldN_out rs (t - s) (by omega)
      rw [WRel.row hrs (s := s) (g := g) (tot := tot) (by omega)] at z
      have z : ¬ (vs.getD (d + oldN rs (t - s)) (0, 0)).1 ≤ t - s := z
      have r := hv.rise (d + oldN rs (t - s)) i hi (by omega)
      omega
theorem wrel_kept {s g tot : Int} {vs rs : List (Int × Int)} (h : WRel s vs g tot rs) : rs.length ≤ (vs.filter fun q => decide (q.1 > (vs.getD (vs.length - 1) (0, 0)).1 - s)).length := by
  obtain ⟨d, hd, hrs, hg, ht, ho, hk⟩ := h.ex
  have hl : rs.length = (vs.drop d).length := by rw [hrs, List.length_drop, tots_len, List.length_drop]
  have e : ∀ L, (vs.drop d).filter (fun q => decide (q.1 > L)) = vs.drop d → (vs.drop d).length ≤ (vs.filter fun q => decide (q.1 > L)).length := fun L e => by
    have z : (vs.filter fun q => decide (q.1 > L)) = ((vs.take d).filter fun q => decide (q.1 > L)) ++ ((vs.drop d).filter fun q => decide (q.1 > L)) := by rw [← List.filter_append, List.take_append_drop]
    rw [z, e, List.length_append]
    omega
  rw [hl]
  refine e _ (List.filter_eq_self.mpr fun q hq => ?_)
  obtain ⟨i, hi⟩ := List.getElem?_of_mem hq
  rw [List.getElem?_drop] at hi
  obtain ⟨hlt, he⟩ := List.getElem?_eq_some_iff.mp hi
  have z := hk (d + i) (vs.length - 1) (by omega) hlt rfl
  rw [List.getD_eq_getElem?_getD (l := vs) (i := d + i), hi] at z
  have z : _ < q.1 + s := z
  exact decide_eq_true (by omega)
/-! all meters of some bounds -/
abbrev Mt := Addr × Option Addr
abbrev VS := List (Int × Int)
def foot (m : Mt) : List Addr := m.1 :: m.2.toList
def MtS (cJM cWM : Addr) (bd : Bd) (vs : VS) (m : Mt) (H : Hp) : Prop := match bd with
  | .jar s f => m.2 = none ∧ ∃ dx lv mo, H m.1 = some (.ins cJM dx (fJM s f lv mo)) ∧ JRel f vs lv mo
  | .win mo s => ∃ l dx g tot rs, m.2 = some l ∧ H m.1 = some (.ins cWM dx (fWM mo s l g tot)) ∧ PairsT H l rs ∧ WRel s vs g tot rs
section
variable {cJM cWM : Addr} {bd : Bd} {vs : VS} {m : Mt} {H H' : Hp}
theorem MtS.mono (e : Ex H H') (h : MtS cJM cWM bd vs m H) : MtS cJM cWM bd vs m H' := by
  cases bd with
  | jar s f =>
    obtain ⟨h1, dx, lv, mo, h2, h3⟩ := h
    exact ⟨h1, dx, lv, mo, e _ _ h2, h3⟩
  | win mo s =>
    obtain ⟨l, dx, g, tot, rs, h1, h2, h3, h4⟩ := h
    exact ⟨l, dx, g, tot, rs, h1, e _ _ h2, h3.mono e, h4⟩
theorem MtS.nt (h : MtS cJM cWM bd vs m H) : ∀ b ∈ foot m, ∀ xs, H b ≠ some (.tup xs) := by
  obtain ⟨x, ol⟩ := m
  cases bd with
  | jar s f =>
    obtain ⟨h1, dx, lv, mo, h2, h3⟩ := h
    obtain rfl : ol = none := h1
    intro b hb xs z
    obtain rfl : b = x := by simpa [foot] using hb
    rw [h2] at z
    cases z
  | win mo s =>
    obtain ⟨l, dx, g, tot, rs, h1, h2, ⟨ps, h3, _⟩, h4⟩ := h
    obtain rfl : ol = some l := h1
    intro b hb xs z
    have hb : b = x ∨ b = l := by simpa [foot] using hb
    rcases hb with rfl | rfl
    · rw [h2] at z
      cases z
    · rw [h3] at z
      cases z
theorem MtS.keep {fo : List Addr} (h : MtS cJM cWM bd vs m H) (k : ∀ b o, b ∉ fo → H b = some o → H' b = some o) (d : ∀ b ∈ foot m, b ∉ fo) (nt : ∀ b ∈ fo, ∀ xs, H b ≠ some (.tup xs)) : MtS cJM cWM bd vs m H' := by
  obtain ⟨x, ol⟩ := m
  cases bd with
  | jar s f =>
    obtain ⟨h1, dx, lv, mo, h2, h3⟩ := h
    exact ⟨h1, dx, lv, mo, k _ _ (d _ (by simp [foot])) h2, h3⟩
  | win mo s =>
    obtain ⟨l, dx, g, tot, rs, h1, h2, ⟨ps, h3, h5⟩, h4⟩ := h
    obtain rfl : ol = some l := h1
    exact ⟨l, dx, g, tot, rs, rfl, k _ _ (d _ (by simp [foot])) h2, ⟨ps, k _ _ (d _ (by simp [foot])) h3, by
      have kk : ∀ b xs, H b = some (.tup xs) → H' b = some (.tup xs) := fun b xs e => k b _ (fun z => nt b z xs e) e
      clear h3 h4 h2
      induction h5 with
      | nil => exact .nil
      | cons a _ ih => exact .cons (kk _ _ a) ih⟩, h4⟩
theorem MtS.cls (h : MtS cJM cWM bd vs m H) : ∃ C dx fs, H m.1 = some (.ins C dx fs) := by
  cases bd with
  | jar s f =>
    obtain ⟨h1, dx, lv, mo, h2, h3⟩ := h
    exact ⟨_, _, _, h2⟩
  | win mo s =>
    obtain ⟨l, dx, g, tot, rs, h1, h2, h3, h4⟩ := h
    exact ⟨_, _, _, h2⟩
end
structure Mts (cJM cWM : Addr) (bvs : List (Bd × VS)) (ms : List Mt) (H : Hp) : Prop where
  len : ms.length = bvs.length
  st : ∀ (j : Nat) q m, bvs[j]? = some q → ms[j]? = some m → MtS cJM cWM q.1 q.2 m H
  nd : ∀ (i j : Nat) mi mj, ms[i]? = some mi → ms[j]? = some mj → i ≠ j → ∀ b ∈ foot mi, b ∉ foot mj
theorem Mts.mono {cJM cWM : Addr} {bvs : List (Bd × VS)} {ms : List Mt} {H H' : Hp} (e : Ex H H') (h : Mts cJM cWM bvs ms H) : Mts cJM cWM bvs ms H' := ⟨h.len, fun j q m a b => (h.st j q m a b).mono e, h.nd⟩
def Fit (bvs : List (Bd × VS)) (t : Int) : Prop := ∀ q ∈ bvs, q.1.ok ∧ VOk q.2 ∧ q.2.length ≤ 900 ∧ Upto q.2 t
theorem upto_le {vs : List (Int × Int)} {t t' : Int} (h : Upto vs t) (e : t ≤ t') : Upto vs t' := fun q hq => Int.le_trans (h q hq) e
def refs (ms : List Mt) : List V := ms.map fun m => V.ref m.1
def waitAllV (t c : Int) : List (Bd × VS) → Int → Option Int
  | [], acc => some acc
  | q :: r, acc => match dueV q.1 q.2 t c with
    | none => none
    | some w => waitAllV t c r (max acc w)
def tookV (t c : Int) (bvs : List (Bd × VS)) : List (Bd × VS) := bvs.map fun q => (q.1, q.2 ++ [(t, c)])
def RWaitAll (K : PySem.W.Frag) (cJM cWM : Addr) (vs : List V) (H : Hp) (v : V) : Prop := ∃ p bvs ms t c, vs = [.ref p, .int t, .int c] ∧ SqL K H p (refs ms) ∧ Mts cJM cWM bvs ms H ∧ Fit bvs t ∧ 1 ≤ c ∧ v = opV (waitAllV t c bvs 0)
def spTakeAll (K : PySem.W.Frag) (cJM cWM : Addr) : Sp := fun vs H Q _ => ∃ p bvs ms t c, vs = [.ref p, .int t, .int c] ∧ SqL K H p (refs ms) ∧ Mts cJM cWM bvs ms H ∧ Fit bvs t ∧ 1 ≤ c ∧ (∀ m ∈ ms, p ∉ foot m) ∧
  ∀ H2, (∀ b o, (∀ m ∈ ms, b ∉ foot m) → H b = some o → H2 b = some o) → Mts cJM cWM (tookV t c bvs) ms H2 → Q .non H2
def RNew (K : PySem.W.Frag) (cJ cW cJM cWM : Addr) (vs : List V) (H : Hp) (W : V → Hp → Prop) : Prop := ∃ p ys bds H0, vs = [.ref p] ∧ SqL K H p (ys.map V.ref) ∧ Paired (fun bd y => BdAt cJ cW bd y H) bds ys ∧ bds.length ≤ 100 ∧ Ex H0 H ∧
  W = fun v H2 => ∃ q ms, v = .ref q ∧ H2 q = some (.lst (refs ms)) ∧ Mts cJM cWM (bds.map fun b => (b, [])) ms H2 ∧ (∀ m ∈ ms, ∀ b ∈ foot m, H0 b = none ∧ b ≠ q) ∧ H0 q = none
theorem yesT {σ : L2.St} {H : Hp} {A B : Hp → Prop} (h : A H) : tYes σ H fun b H3 => if b = true then A H3 else B H3 := by
  show if true = true then A H else B H
  rw [if_pos rfl]
  exact h
theorem paired_at {α β : Type} {R : α → β → Prop} : ∀ {xs : List α} {ys : List β}, Paired R xs ys → ∀ {i : Nat} {y : β}, ys[i]? = some y → ∃ x, xs[i]? = some x ∧ R x y
  | [], [], .nil, i, y, h => by simp at h
  | _ :: _, _ :: _, .cons r _, 0, y, h => by
    rw [List.getElem?_cons_zero] at h
    cases h
    exact ⟨_, by rw [List.getElem?_cons_zero], r⟩
  | _ :: _, _ :: _, .cons _ rs, i + 1, y, h => by
    rw [List.getElem?_cons_succ] at h
    obtain ⟨x, e, r⟩ := paired_at rs h
    exact ⟨x, by rw [List.getElem?_cons_succ]; exact e, r⟩
theorem drop_at {α : Type} {l : List α} {i : Nat} {x : α} (h : l[i]? = some x) : l.drop i = x :: l.drop (i + 1) := by
  obtain ⟨hi, e⟩ := List.getElem?_eq_some_iff.mp h
  rw [List.drop_eq_getElem_cons hi, e]
section
variable {P : Program} {w : World} {K : PySem.W.Frag} {mg : Str → Option Value} {base : Heap} {cJ cW cJM cWM : Addr}
theorem cal_wait_for_all {f : Addr} {fd : FuncData} (T : Blt mg) (t_JarMeter_wait : C8.Met P w K mg base 2 cJM "wait" (spF (RWaitJ cJM)) []) (t_WindowMeter_wait : C8.Met P w K mg base 2 cWM "wait" (spF (RWaitW cWM)) []) (F : C8.Def K mg "wait_for_all" s_wait_for_all f fd) (b : Binds K fd ["meters", "moment", "cost"] []) :
    C8.Cal P w K mg base 3 "wait_for_all" (spF (RWaitAll K cJM cWM)) [] := by
  refine calF F b sc_wait_for_all (fun vs H v h => ?_) (fun cdv A outer s H vs v E hr h => ?_)
  · obtain ⟨p, bvs, ms, t, c, rfl, _⟩ := h
    rfl
  · obtain ⟨p, bvs, ms, t, c, rfl, hp, M, ft, hc, rfl⟩ := h
    refine ⟨_, (pss_cons (ps_set (i := 3) sc_wait_for_all.nd rfl (Or.inl rfl) pe_int)
  (pss_cons (ps_for PassesOwn.never rfl (pi_list (pv 0)) (pg_name (i := 4) sc_wait_for_all.nd rfl (Or.inl rfl))
    (pss_cons (ps_set (i := 5) sc_wait_for_all.nd rfl (Or.inl rfl) (pe_or2 (C8.pe_mt t_JarMeter_wait hr (by decide) (pv 4) (pa_cons (pv 1) (pa_cons (pv 2) pa_nil))) (C8.pe_mt t_WindowMeter_wait hr (by decide) (pv 4) (pa_cons (pv 1) (pa_cons (pv 2) pa_nil)))))
    (pss_cons (ps_if (pt_cmp (pc_isN (pv 5)))
      (pss_one (ps_ret pe_non))
      pss_nil)
    (pss_one (ps_set (i := 3) sc_wait_for_all.nd rfl (Or.inl rfl) (pe_callB (call_max2 rfl) (by rfl) T.b_max boot_max (pa_cons (pv 3) (pa_cons (pv 5) pa_nil))))))))
  (pss_one (ps_ret (pv 3))))), ?_⟩
    refine rt_seq (nx_asg ev_c) ?_
    refine RtW.toV ?_
    refine rtwp_for (fun i σ => ∃ acc o1 o2, σ = [some (.ref p), some (.int t), some (.int c), some (.int acc), o1, o2] ∧ waitAllV t c (bvs.drop i) acc = waitAllV t c bvs 0) ⟨0, none, none, rfl, rfl⟩ (ei_l (K := K) .non (ev_var rfl) hp) (fun i σ hi ⟨acc, o1, o2, hσ, hw⟩ => ?_) (fun σ ⟨acc, o1, o2, hσ, hw⟩ => ?_)
    · subst hσ
      have hi : i < ms.length := by rw [refs, List.length_map] at hi; exact hi
      have hm : ms[i]? = some ms[i] := List.getElem?_eq_getElem hi
      have hq : bvs[i]? = some (bvs[i]'(by rw [← M.len]; exact hi)) := List.getElem?_eq_getElem _
      generalize ms[i] = m at hm
      generalize (bvs[i]'(by rw [← M.len]; exact hi)) = q at hq
      have S := M.st i q m hq hm
      obtain ⟨ok, vok, vl, up⟩ := ft q (List.mem_of_getElem? hq)
      have item : (refs ms).getD i .non = .ref m.1 := by
        rw [refs, List.getD_eq_getElem?_getD, List.getElem?_map, hm]
        rfl
      rw [item]
      rw [drop_at hq] at hw
      have ew : ∀ σ' : L2.St, σ'[4]? = some (some (.ref m.1)) → σ'[1]? = some (some (.int t)) → σ'[2]? = some (some (.int c)) → Ev (tOr2 (tMeth cJM "wait" (spF (RWaitJ cJM)) [] C8.E0 (tVar 4) (tCons (tVar 1) (tCons (tVar 2) tNil))) (tMeth cWM "wait" (spF (RWaitW cWM)) [] C8.E0 (tVar 4) (tCons (tVar 1) (tCons (tVar 2) tNil)))) σ' H (opV (dueV q.1 q.2 t c)) := fun σ' h4 h1 h2 => by
        obtain ⟨bd, vis⟩ := q
        cases bd with
        | jar s f =>
          obtain ⟨h1', dx, lv, mo, hx, r⟩ := S
          refine ev_orL (ev_methF (ev_var h4) hx rfl (ea_cons (ev_var h1) (ea_cons (ev_var h2) ea_nil)) fun H1 e => ⟨m.1, dx, s, f, lv, mo, t, c, rfl, e _ _ hx, ⟨ok.2.2.1, ok.2.2.2, r.mm⟩, ?_⟩)
          rw [due_jar r up ok.2.2.1]
        | win mo s =>
          obtain ⟨l, dx, g, tot, rs, h1', hx, hP, r⟩ := S
          refine ev_orR (ev_methF (ev_var h4) hx rfl (ea_cons (ev_var h1) (ea_cons (ev_var h2) ea_nil)) fun H1 e => ⟨m.1, dx, mo, s, l, g, tot, rs, t, c, rfl, e _ _ hx, hP.mono e, r.wok vok (by omega), ?_⟩)
          rw [due_win_is r vok up hc]
      cases hd : dueV q.1 q.2 t c with
      | none =>
        refine .inr (grtw_name ?_)
        rw [hd] at ew
        have z : waitAllV t c bvs 0 = none := by
          rw [← hw, waitAllV, hd]
        refine rtw_seq (nx_asg (ew _ rfl rfl rfl)) ?_
        refine rtw_ifseq (b := true) (et_test (ev_isN (ev_var (v := .non) rfl))) (fun _ => Rt.toW (rt_ret ?_)) fun z => by cases z
        rw [z]
        exact ev_c
      | some n =>
        refine .inl (gnxp_name ?_)
        rw [hd] at ew
        have z : waitAllV t c (bvs.drop (i + 1)) (max acc n) = waitAllV t c bvs 0 := by
          rw [← hw, waitAllV, hd]
        refine nxp_seqP (nxp_of (nx_asg (ew _ rfl rfl rfl)) (P := fun σ => σ = [some (.ref p), some (.int t), some (.int c), some (.int acc), some (.ref m.1), some (.int n)]) rfl) fun σ hσ => ?_
        subst hσ
        refine nxp_seqP (P := fun σ => σ = [some (.ref p), some (.int t), some (.int c), some (.int acc), some (.ref m.1), some (.int n)]) (nxp_if (b := false) (et_test (ev_isN (ev_var (v := .int n) rfl))) (fun z => by cases z) fun _ => nxp_of nx_next rfl) fun σ hσ => ?_
        subst hσ
        exact nxp_of (nx_asg (ev_max (ev_var rfl) (ev_var (v := .int n) rfl))) ⟨max acc n, _, _, rfl, z⟩
    · subst hσ
      have e : bvs.drop (refs ms).length = [] := by
        rw [refs, List.length_map, M.len]
        exact List.drop_length
      rw [e] at hw
      rw [← hw]
      exact Rt.toW (rt_ret (ev_var rfl))
theorem cal_take_by_all {f : Addr} {fd : FuncData} (t_JarMeter_take : C8.Met P w K mg base 2 cJM "take" (spTakeJ cJM) []) (t_WindowMeter_take : C8.Met P w K mg base 2 cWM "take" (spTakeW cWM) []) (F : C8.Def K mg "take_by_all" s_take_by_all f fd) (b : Binds K fd ["meters", "moment", "cost"] []) :
    C8.Cal P w K mg base 3 "take_by_all" (spTakeAll K cJM cWM) [] := by
  refine C8.cal0 F b .nil sc_take_by_all (fun vs H Q E h => ?_) (fun cdv A outer s H vs Q E hr h => ?_)
  · obtain ⟨p, bvs, ms, t, c, rfl, _⟩ := h
    rfl
  · obtain ⟨p, bvs, ms, t, c, rfl, hp, M, ft, hc, np, q⟩ := h
    refine ⟨_, (pss_one (ps_for PassesOwn.never rfl (pi_list (pv 0)) (pg_name (i := 3) sc_take_by_all.nd rfl (Or.inl rfl))
    (pss_one (ps_expr (pe_or2 (C8.pe_mt t_JarMeter_take hr (by decide) (pv 3) (pa_cons (pv 1) (pa_cons (pv 2) pa_nil))) (C8.pe_mt t_WindowMeter_take hr (by decide) (pv 3) (pa_cons (pv 1) (pa_cons (pv 2) pa_nil)))))))), ?_⟩
    have sqk : ∀ H', (∀ b o, (∀ m ∈ ms, b ∉ foot m) → H b = some o → H' b = some o) → SqL K H' p (refs ms) := fun H' k => by
      rcases hp with (h | ⟨o, h⟩) | h
      · exact .inl (.inl (k _ _ np h))
      · exact .inl (.inr ⟨o, k _ _ np h⟩)
      · exact .inr h
    refine s_forLn (K := K) (ev_var rfl) hp (fun i σ' H' => (∃ o, σ' = [some (.ref p), some (.int t), some (.int c), o]) ∧ (∀ b o, (∀ m ∈ ms, b ∉ foot m) → H b = some o → H' b = some o) ∧ ∀ (j : Nat) q m, bvs[j]? = some q → ms[j]? = some m → MtS cJM cWM q.1 (if j < i then q.2 ++ [(t, c)] else q.2) m H')
      (fun H1 e => ⟨⟨none, rfl⟩, fun b o _ h => e _ _ h, fun j q m h1 h2 => by rw [if_neg (Nat.not_lt_zero _)]; exact (M.st j q m h1 h2).mono e⟩) (fun i σ' H' _ ⟨_, k, _⟩ => sqk H' k) (fun i x σ' H' hx ⟨⟨o, hσ⟩, k, st⟩ => ?_) (fun σ' H' ⟨_, k, st⟩ => q H' k ⟨?_, ?_, M.nd⟩)
    · subst hσ
      rw [refs, List.getElem?_map] at hx
      obtain ⟨m, hm, rfl⟩ := Option.map_eq_some_iff.mp hx
      obtain ⟨hi, _⟩ := List.getElem?_eq_some_iff.mp hm
      have hq : bvs[i]? = some (bvs[i]'(by rw [← M.len]; exact hi)) := List.getElem?_eq_getElem _
      generalize (bvs[i]'(by rw [← M.len]; exact hi)) = qq at hq
      have S := st i qq m hq hm
      rw [if_neg (Nat.lt_irrefl _)] at S
      obtain ⟨ok, vok, vl, up⟩ := ft qq (List.mem_of_getElem? hq)
      have hmem : m ∈ ms := List.mem_of_getElem? hm
      have fin : ∀ H2, (∀ b o, b ∉ foot m → H' b = some o → H2 b = some o) → MtS cJM cWM qq.1 (qq.2 ++ [(t, c)]) m H2 →
          (∃ o, ([some (V.ref p), some (V.int t), some (V.int c), some (V.ref m.1)] : L2.St) = [some (.ref p), some (.int t), some (.int c), o]) ∧ (∀ b o, (∀ m ∈ ms, b ∉ foot m) → H b = some o → H2 b = some o) ∧ ∀ (j : Nat) q m, bvs[j]? = some q → ms[j]? = some m → MtS cJM cWM q.1 (if j < i + 1 then q.2 ++ [(t, c)] else q.2) m H2 := fun H2 k2 S2 => by
        refine ⟨⟨_, rfl⟩, fun b o nb hb => k2 b o (nb m hmem) (k b o nb hb), fun j q m' h1 h2 => ?_⟩
        by_cases e : j = i
        · subst e
          rw [h1] at hq
          cases hq
          rw [h2] at hm
          cases hm
          rw [if_pos (Nat.lt_succ_self _)]
          exact S2
        · have z := (st j q m' h1 h2).keep (H' := H2) k2 (M.nd j i m' m h2 hm e) S.nt
          by_cases hj : j < i
          · rw [if_pos hj] at z
            rw [if_pos (by omega)]
            exact z
          · rw [if_neg hj] at z
            rw [if_neg (by omega)]
            exact z
      obtain ⟨bd, vis⟩ := qq
      cases bd with
      | jar sz f =>
        obtain ⟨h1', dx, lv, mo, hx, r⟩ := id S
        refine .inl ⟨_, rfl, m.1, dx, _, rfl, hx, rfl, ?_⟩
        refine (ea_cons (ev_var rfl) (ea_cons (ev_var rfl) ea_nil) : EvA _ _ H' [.int t, .int c]) H' (Ex.refl _) _ fun H1 e1 => ?_
        refine ⟨m.1, dx, sz, f, lv, mo, t, c, rfl, e1 _ _ hx, ⟨ok.2.2.1, ok.2.2.2, r.mm⟩, fun H2 e2 => ?_⟩
        refine fin _ (fun b o nb hb => ?_) ⟨h1', dx, _, _, upd_same, jrel_take r up hc⟩
        rw [upd_ne (fun z => nb (by rw [z]; simp [foot]))]
        exact e2 _ _ (e1 _ _ hb)
      | win mo sp =>
        obtain ⟨l, dx, g, tot, rs, h1', hx, hP, r⟩ := id S
        refine .inr ⟨_, rfl, m.1, dx, _, rfl, hx, rfl, ?_⟩
        refine (ea_cons (ev_var rfl) (ea_cons (ev_var rfl) ea_nil) : EvA _ _ H' [.int t, .int c]) H' (Ex.refl _) _ fun H1 e1 => ?_
        have hlen : rs.length ≤ 900 := by
          obtain ⟨d, hd, hrs, _⟩ := r.ex
          have : vis.length ≤ 900 := vl
          rw [hrs, List.length_drop, tots_len]
          omega
        refine ⟨m.1, dx, mo, sp, l, g, tot, rs, t, c, rfl, e1 _ _ hx, hP.mono e1, hlen, fun H2 k2 hx2 hP2 => ?_⟩
        refine fin _ (fun b o nb hb => ?_) ⟨l, dx, _, _, _, h1', hx2, hP2, wrel_take r vok up ok.2.2.1⟩
        have nb1 : b ≠ m.1 := fun z => nb (by rw [z]; simp [foot])
        have nb2 : b ≠ l := fun z => nb (by rw [z]; simp [foot, h1'])
        exact k2 b o nb1 nb2 (e1 _ _ hb)
    · rw [tookV, List.length_map]
      exact M.len
    · intro j qq m h1 h2
      rw [tookV, List.getElem?_map] at h1
      obtain ⟨q0, h3, rfl⟩ := Option.map_eq_some_iff.mp h1
      have z := st j q0 m h3 h2
      rw [if_pos (by rw [refs, List.length_map]; exact (List.getElem?_eq_some_iff.mp h2).1)] at z
      exact z
theorem cal_new_meters {f : Addr} {fd : FuncData} (t_Jar_meter : C8.Met P w K mg base 3 cJ "meter" (spW (RMetJ2 cJ cJM)) []) (t_Window_meter : C8.Met P w K mg base 3 cW "meter" (spW (RMetW2 cW cWM)) []) (F : C8.Def K mg "new_meters" s_new_meters f fd) (b : Binds K fd ["bounds"] []) :
    C8.Cal P w K mg base 4 "new_meters" (spW (RNew K cJ cW cJM cWM)) [] := by
  refine calW F b sc_new_meters (fun vs H v h => ?_) (fun cdv A outer s H vs W E hr h => ?_)
  · obtain ⟨p, ys, bds, H0, rfl, _⟩ := h
    rfl
  · obtain ⟨p, ys, bds, H0, rfl, hp, hb, hl, e0, rfl⟩ := h
    refine ⟨_, (pss_one (ps_ret (pe_lc (own := [("bound", 1)]) (g := gName 1) rfl sc_new_meters.nd (pi_list (pv 0)) (blkOk_by (own := [("bound", 1)]) (N := ["bounds", "bound"]) (sc := C8.fnScope s_new_meters) (by decide +kernel)) (fun _ _ _ _ _ => pg_name (i := 1) sc_new_meters.nd rfl (Or.inl rfl)) (fun _ _ _ _ _ => pts_nil) (fun _ _ _ _ _ => (pe_or2 (C8.pe_mt0 t_Jar_meter hr (by decide) (pv 1)) (C8.pe_mt0 t_Window_meter hr (by decide) (pv 1))))))), ?_⟩
    refine rtw_ret fun H1 e1 Q q => ?_
    have hlen : bds.length = ys.length := Paired.length hb
    refine ⟨_, rfl, p, rfl, ⟨ys.map V.ref, ex_l e1 hp⟩, fun D nD => ?_⟩
    refine lc_list (K := K) (a := p) (xs := ys.map V.ref) (fun i H' => Ex H1 H' ∧ ∃ ms : List Mt, ms.length = i ∧ H' D = some (.lst (refs ms)) ∧ (∀ (j : Nat) bd m, bds[j]? = some bd → ms[j]? = some m → MtS cJM cWM bd [] m H') ∧ (∀ (i j : Nat) mi mj, ms[i]? = some mi → ms[j]? = some mj → i ≠ j → ∀ b ∈ foot mi, b ∉ foot mj) ∧ ∀ m ∈ ms, ∀ b ∈ foot m, H0 b = none ∧ b ≠ D ∧ H' b ≠ none)
      ⟨Ex.new nD, [], rfl, upd_same, fun j bd m _ h => by simp at h, fun i j mi mj h => by simp at h, fun m h => by cases h⟩ (fun i H' _ ⟨e, _⟩ => ex_l (e1.trans e) hp) (fun i x H' hx ⟨e, ms, hms, hD, st, nd, fr⟩ => ?_) (fun H' ⟨e, ms, hms, hD, st, nd, fr⟩ => ?_)
    · rw [List.getElem?_map] at hx
      obtain ⟨y, hy, rfl⟩ := Option.map_eq_some_iff.mp hx
      obtain ⟨bd, hbd, hBd0⟩ := paired_at hb hy
      have hBd := hBd0.mono (e1.trans e)
      clear hBd0
      have hi : i < bds.length := (List.getElem?_eq_some_iff.mp hbd).1
      show wipe _ _ = wipe _ _ ∧ _
      refine ⟨rfl, ?_⟩
      -- a new meter: its footprint is new
      have fin : ∀ (m : Mt) (H2 : Hp), Ex H' H2 → (∀ b ∈ foot m, H' b = none ∧ H2 b ≠ none) → MtS cJM cWM bd [] m H2 → ∃ acc, H2 D = some (.lst acc) ∧ acc.length < sizeLine ∧ (Ex H1 (upd H2 D (.lst (acc ++ [.ref m.1]))) ∧ ∃ ms : List Mt, ms.length = i + 1 ∧ upd H2 D (.lst (acc ++ [.ref m.1])) D = some (.lst (refs ms)) ∧ (∀ (j : Nat) bd m', bds[j]? = some bd → ms[j]? = some m' → MtS cJM cWM bd [] m' (upd H2 D (.lst (acc ++ [.ref m.1])))) ∧ (∀ (i j : Nat) mi mj, ms[i]? = some mi → ms[j]? = some mj → i ≠ j → ∀ b ∈ foot mi, b ∉ foot mj) ∧ ∀ m' ∈ ms, ∀ b ∈ foot m', H0 b = none ∧ b ≠ D ∧ upd H2 D (.lst (acc ++ [.ref m.1])) b ≠ none) := fun m H2 e2 fm S => by
        have hD2 := e2 _ _ hD
        have mD : ∀ b ∈ foot m, b ≠ D := fun b hb z => by
          rw [z] at hb
          have := (fm D hb).1
          rw [hD] at this
          cases this
        have keepD : ∀ b o, b ∉ [D] → H2 b = some o → upd H2 D (.lst (refs ms ++ [.ref m.1])) b = some o := fun b o nb hb => by
          rw [upd_ne (fun z => nb (by rw [z]; simp))]
          exact hb
        have ntD : ∀ b ∈ [D], ∀ xs, H2 b ≠ some (.tup xs) := fun b hb xs z => by
          obtain rfl : b = D := by simpa using hb
          rw [hD2] at z
          cases z
        refine ⟨refs ms, hD2, ?_, (e.trans e2).mut nD, ms ++ [m], ?_, ?_, fun j bd' m' h1 h2 => ?_, fun i' j' mi mj h1 h2 hne => ?_, fun m' hm' b hb => ?_⟩
        · rw [refs, List.length_map]
          exact sz_lt (by omega)
        · rw [List.length_append, hms]
          rfl
        · rw [upd_same]
          unfold refs
          rw [List.map_append]
          rfl
        · by_cases hj : j < ms.length
          · rw [List.getElem?_append_left hj] at h2
            refine MtS.keep ((st j bd' m' h1 h2).mono e2) keepD (fun b hb z => ?_) ntD
            exact (fr m' (List.mem_of_getElem? h2) b hb).2.1 (by simpa using z)
          · rw [List.getElem?_append_right (by omega)] at h2
            have hj0 : j - ms.length = 0 := by
              have := (List.getElem?_eq_some_iff.mp h2).1
              simp at this
              omega
            rw [hj0] at h2
            obtain rfl : m = m' := by simpa using h2
            have : j = i := by omega
            subst this
            rw [hbd] at h1
            cases h1
            refine MtS.keep S keepD (fun b hb z => mD b hb (by simpa using z)) ntD
        · have one : ∀ (k : Nat) mk, (ms ++ [m])[k]? = some mk → (k < ms.length ∧ ms[k]? = some mk) ∨ (k = ms.length ∧ mk = m) := fun k mk h => by
            by_cases hk : k < ms.length
            · rw [List.getElem?_append_left hk] at h
              exact .inl ⟨hk, h⟩
            · rw [List.getElem?_append_right (by omega)] at h
              have hk0 : k - ms.length = 0 := by
                have := (List.getElem?_eq_some_iff.mp h).1
                simp at this
                omega
              rw [hk0] at h
              exact .inr ⟨by omega, by simpa using h.symm⟩
          have apart : ∀ mk ∈ ms, ∀ b ∈ foot mk, b ∉ foot m := fun mk hk b hb z => (fr mk hk b hb).2.2 (fm b z).1
          intro b hb hz
          rcases one i' mi h1 with ⟨l1, g1⟩ | ⟨l1, g1⟩
          · rcases one j' mj h2 with ⟨l2, g2⟩ | ⟨l2, g2⟩
            · exact nd i' j' mi mj g1 g2 hne b hb hz
            · subst g2
              exact apart mi (List.mem_of_getElem? g1) b hb hz
          · rcases one j' mj h2 with ⟨l2, g2⟩ | ⟨l2, g2⟩
            · subst g1
              exact apart mj (List.mem_of_getElem? g2) b hz hb
            · omega
        · rcases List.mem_append.mp hm' with hm' | hm'
          · obtain ⟨a1, a2, a3⟩ := fr m' hm' b hb
            refine ⟨a1, a2, ?_⟩
            rw [upd_ne a2]
            cases z : H' b with
            | none => exact absurd z a3
            | some o =>
              rw [e2 _ _ z]
              exact fun z => by cases z
          · obtain rfl : m' = m := by simpa using hm'
            refine ⟨fresh_back (e0.trans (e1.trans e)) (fm b hb).1, mD b hb, ?_⟩
            rw [upd_ne (mD b hb)]
            exact (fm b hb).2
      refine yesT ?_
      cases bd with
      | jar sz f =>
        obtain ⟨dy, hx⟩ := hBd
        refine .inl ⟨.ref y, rfl, y, dy, fJar sz f, rfl, hx, rfl, ?_⟩
        refine ⟨fun v H2 => ∃ x, v = .ref x ∧ H' x = none ∧ ∃ dx, H2 x = some (.ins cJM dx (fJM sz f 0 none)), fun H2 e2 => ⟨y, dy, sz, f, H', rfl, e2 _ _ hx, e2, rfl⟩, fun v H2 e2 ⟨x, ev, nx, dx, hh⟩ => ?_⟩
        subst ev
        exact fin (x, none) H2 e2 (fun b hb => by
          obtain rfl : b = x := by simpa [foot] using hb
          exact ⟨nx, by rw [hh]; exact fun z => by cases z⟩) ⟨rfl, dx, 0, none, hh, jrel_nil f⟩
      | win mo sp =>
        obtain ⟨dy, hx⟩ := hBd
        refine .inr ⟨.ref y, rfl, y, dy, fWin mo sp, rfl, hx, rfl, ?_⟩
        refine ⟨fun v H2 => ∃ x, v = .ref x ∧ H' x = none ∧ ∃ dx l, H2 x = some (.ins cWM dx (fWM mo sp l 0 0)) ∧ H2 l = some (.lst []) ∧ H' l = none, fun H2 e2 => ⟨y, dy, mo, sp, H', rfl, e2 _ _ hx, e2, rfl⟩, fun v H2 e2 ⟨x, ev, nx, dx, l, hh, hl2, nl⟩ => ?_⟩
        subst ev
        exact fin (x, some l) H2 e2 (fun b hb => by
          have hb : b = x ∨ b = l := by simpa [foot] using hb
          rcases hb with rfl | rfl
          · exact ⟨nx, by rw [hh]; exact fun z => by cases z⟩
          · exact ⟨nl, by rw [hl2]; exact fun z => by cases z⟩) ⟨l, dx, 0, 0, [], rfl, hh, ⟨[], hl2, .nil⟩, wrel_nil sp⟩
    · rw [List.length_map] at hms
      have eD : Ex H1 H' := e
      refine q (.ref D) H' e ⟨D, ms, rfl, hD, ⟨by rw [hms, List.length_map, hlen], fun j qq m h1 h2 => ?_, nd⟩, fun m hm b hb => ⟨(fr m hm b hb).1, (fr m hm b hb).2.1⟩, fresh_back (e0.trans e1) nD⟩
      rw [List.getElem?_map] at h1
      obtain ⟨bd, h3, rfl⟩ := Option.map_eq_some_iff.mp h1
      exact st j bd m h3 h2
end
/-! the refusals: what the written part says of their classes; kinds of things -/
theorem kit_sub {K : PySem.W.Frag} {C D : Addr} {b : Bool} (hd : PySem.W.hasDictIn K D = true) (ht : PySem.W.typeIn K (.ref D) = some (.type "type")) (hs : PySem.W.subIn K (.ref C) (.ref D) = some b) (hne : b = false → C ≠ D) : PySem.W.kitOne K (.ref C) (.ref D) = some b := by
  obtain ⟨cd, hc, _⟩ := PySem.W.any_some hd
  have e2 : ((PySem.W.clsIn K D).isSome && PySem.W.typeIn K (.ref D) == some (.type "type")) = true := by rw [hc, ht] <;> rfl
  show (if (Value.ref C == Value.ref D) = true then some true else PySem.W.kitCls K (.ref C) (.ref D)) = some b
  by_cases h : (Value.ref C == Value.ref D) = true
  · rw [if_pos h]
    cases b with
    | true => rfl
    | false =>
      have e := beq_iff_eq.mp h
      injection e with e
      exact absurd e (hne rfl)
  · rw [if_neg h]
    show (if ((PySem.W.clsIn K D).isSome && PySem.W.typeIn K (.ref D) == some (.type "type")) = true then PySem.W.subIn K (.ref C) (.ref D) else none) = some b
    rw [if_pos e2]
    exact hs
theorem kit_yes {K : PySem.W.Frag} {C D : Addr} (hd : PySem.W.hasDictIn K D = true) (ht : PySem.W.typeIn K (.ref D) = some (.type "type")) (hs : PySem.W.subIn K (.ref C) (.ref D) = some true) : PySem.W.kitOne K (.ref C) (.ref D) = some true := kit_sub hd ht hs fun z => by cases z
theorem kit_no {K : PySem.W.Frag} {C D : Addr} (hd : PySem.W.hasDictIn K D = true) (ht : PySem.W.typeIn K (.ref D) = some (.type "type")) (hs : PySem.W.subIn K (.ref C) (.ref D) = some false) (me : PySem.W.subIn K (.ref C) (.ref C) = some true) : PySem.W.kitOne K (.ref C) (.ref D) = some false := kit_sub hd ht hs fun _ e => by
  subst e
  rw [me] at hs
  cases hs
theorem kit_ve {K : PySem.W.Frag} {C : Addr} (hs : PySem.W.subIn K (.ref C) (.type "ValueError") = some true) : PySem.W.kitOne K (.ref C) (.type "ValueError") = some true := by
  show (if (Value.ref C == Value.type "ValueError") = true then some true else if PySem.W.kitMeta "ValueError" = true then PySem.W.subIn K (.ref C) (.type "ValueError") else none) = some true
  have m : PySem.W.kitMeta "ValueError" = true := by decide +kernel
  by_cases h : (Value.ref C == Value.type "ValueError") = true
  · rw [if_pos h]
  · rw [if_neg h, if_pos m]
    exact hs

structure Rs (K : PySem.W.Frag) (mg : Str → Option Value) (x : Str) (C : Addr) : Prop where
  gP : mg x = some (.ref C)
  xP : PySem.W.excIn K C [.type "ValueError", .type "Exception", .type "BaseException", .type "object"] "ValueError.__new__" = true
  kP : PySem.W.keepIn K (.ref C) = true
  bP : PySem.W.subIn K (.ref C) (.type "BaseException") = some true
  tP : PySem.W.typeIn K (.ref C) = some (.type "type")
structure Xf (K : PySem.W.Frag) (mg : Str → Option Value) (x : Str) (C fI : Addr) (fd : FuncData) (ps : List Str) : Prop where
  g : mg x = some (.ref C)
  ox : OexC K C
  ii : PySem.W.findIn K (.ref C) "__init__" = some (some (.ref fI))
  it : PySem.W.typeIn K (.ref fI) = some (.type "function")
  bi : Binds K fd ps []
structure Gcl (mg : Str → Option Value) (cG : Addr) (cs : Nat → Addr) (cJ cW : Addr) : Prop extends Cst mg where
  c_GateError : mg "GateError" = some (.ref cG)
  c_NoBound : mg "NoBound" = some (.ref (cs 0))
  c_NoMoment : mg "NoMoment" = some (.ref (cs 1))
  c_NoCost : mg "NoCost" = some (.ref (cs 2))
  c_NoPlace : mg "NoPlace" = some (.ref (cs 3))
  c_NoVisit : mg "NoVisit" = some (.ref (cs 4))
  c_Full : mg "Full" = some (.ref (cs 5))
  c_Broken : mg "Broken" = some (.ref (cs 6))
  c_Jar : mg "Jar" = some (.ref cJ)
  c_Window : mg "Window" = some (.ref cW)
structure Kdr (K : PySem.W.Frag) (cG : Addr) (cs : Nat → Addr) (n : Nat) : Prop where
  ex : ∀ i, i < n → ExcC K (cs i)
  em : ∀ i, i < n → PySem.W.exmOne K (.ref (cs i)) (.ref cG) = some true
  kV : ∀ i, i < n → PySem.W.kitOne K (.ref (cs i)) (.type "ValueError") = some true
  kk : ∀ i j, i < n → j < n → PySem.W.kitOne K (.ref (cs i)) (.ref (cs j)) = some (decide (i = j))
def Kd (K : PySem.W.Frag) (H : Hp) (x : V) : Prop := (∃ i, x = .int i) ∨ (NoInt K H x ∧ ∀ i, x ≠ .int i)
theorem Kd.mono {K : PySem.W.Frag} {H H' : Hp} {x : V} (e : Ex H H') (h : Kd K H x) : Kd K H' x := h.imp id fun ⟨a, b⟩ => ⟨a.mono e, b⟩
def inR (x : V) (lo hi : Int) : Bool := match x with
  | .int i => decide (lo ≤ i) && decide (i ≤ hi)
  | _ => false
theorem inR_no {x : V} {lo hi : Int} (h : ∀ i, x ≠ .int i) : inR x lo hi = false := by
  unfold inR
  split
  · exact absurd rfl (h _)
  · rfl
theorem rWithinK {K : PySem.W.Frag} {H : Hp} {x : V} {lo hi : Int} (h : Kd K H x) : ∀ H1, Ex H H1 → RWithin K [x, .int lo, .int hi] H1 (.bl (inR x lo hi)) := fun H1 e => by
  rcases h with ⟨i, rfl⟩ | ⟨h1, h2⟩
  · exact ⟨.int i, lo, hi, rfl, .inl ⟨i, rfl, rfl⟩⟩
  · exact ⟨x, lo, hi, rfl, .inr ⟨h1.mono e, by rw [inR_no h2]⟩⟩
theorem inR_int {x : V} {lo hi : Int} (h : inR x lo hi = true) : ∃ i, x = .int i ∧ lo ≤ i ∧ i ≤ hi := by
  unfold inR at h
  split at h
  · rename_i i
    rw [Bool.and_eq_true] at h
    exact ⟨i, rfl, of_decide_eq_true h.1, of_decide_eq_true h.2⟩
  · cases h
/-! a bound or none -/
structure InsF (K : PySem.W.Frag) (C : Addr) : Prop where
  ha : PySem.W.findIn K (.ref C) "__class__" = some (some (.builtin "object.__class__"))
  hm : PySem.W.mroIn K C (.type "object") = some true
def noCls (n : String) : Bool := (fastBuiltinMro n).any fun l => l.all fun v => match v with
  | .type _ => true
  | _ => false
theorem sub_noCls {K : PySem.W.Frag} {n : String} {C : Addr} (h : noCls n = true) : PySem.W.subIn K (.type n) (.ref C) = some false := by
  unfold noCls at h
  show (fastBuiltinMro n).map (·.contains (.ref C)) = some false
  cases e : fastBuiltinMro n with
  | none =>
    rw [e] at h
    cases h
  | some l =>
    rw [e] at h
    have h : l.all (fun v => match v with | .type _ => true | _ => false) = true := h
    show some (l.contains (.ref C)) = some false
    congr 1
    cases z : l.contains (Value.ref C) with
    | false => rfl
    | true =>
      have m := List.contains_iff_mem.mp z
      have y := List.all_eq_true.mp h _ m
      cases y
structure BdC (K : PySem.W.Frag) (cJ cW : Addr) : Prop where
  clJ : Cls K cJ
  clW : Cls K cW
  fJ : InsF K cJ
  fW : InsF K cW
  hn : PySem.W.specialIn K (.builtin "object.__class__") "__get__" = some (some (.builtin "getset_descriptor.__get__"))
  ht : PySem.W.takesIn K (.builtin "object.__class__") = some true
  wj : PySem.W.kitOne K (.ref cW) (.ref cJ) = some false
  dJ : PySem.W.hasDictIn K cJ = true
  dW : PySem.W.hasDictIn K cW = true
  tJ : PySem.W.typeIn K (.ref cJ) = some (.type "type")
  tW : PySem.W.typeIn K (.ref cW) = some (.type "type")
theorem kit_one_no {K : PySem.W.Frag} {n : String} {D : Addr} (hd : PySem.W.hasDictIn K D = true) (ht : PySem.W.typeIn K (.ref D) = some (.type "type")) (h : noCls n = true) : PySem.W.kitOne K (.type n) (.ref D) = some false := by
  obtain ⟨cd, hc, _⟩ := PySem.W.any_some hd
  have e2 : ((PySem.W.clsIn K D).isSome && PySem.W.typeIn K (.ref D) == some (.type "type")) = true := by rw [hc, ht] <;> rfl
  show (if (Value.type n == Value.ref D) = true then some true else PySem.W.kitCls K (.type n) (.ref D)) = some false
  rw [if_neg (fun z => by cases beq_iff_eq.mp z)]
  show (if ((PySem.W.clsIn K D).isSome && PySem.W.typeIn K (.ref D) == some (.type "type")) = true then PySem.W.subIn K (.type n) (.ref D) else none) = some false
  rw [if_pos e2]
  exact sub_noCls h
theorem kit_any_no {K : PySem.W.Frag} {cJ cW : Addr} (B : BdC K cJ cW) {n : String} (h : noCls n = true) : PySem.W.kitAny K (.type n) [.ref cJ, .ref cW] = some false := by
  unfold PySem.W.kitAny
  rw [kit_one_no B.dJ B.tJ h]
  unfold PySem.W.kitAny
  rw [kit_one_no B.dW B.tW h]
  rfl
theorem kit_self {K : PySem.W.Frag} {C : Addr} : PySem.W.kitOne K (.ref C) (.ref C) = some true := by
  unfold PySem.W.kitOne
  rw [if_pos (beq_self_eq_true _)]
theorem kit_any_J {K : PySem.W.Frag} {cJ cW : Addr} : PySem.W.kitAny K (.ref cJ) [.ref cJ, .ref cW] = some true := by
  unfold PySem.W.kitAny
  rw [kit_self]
theorem kit_any_W {K : PySem.W.Frag} {cJ cW : Addr} (B : BdC K cJ cW) : PySem.W.kitAny K (.ref cW) [.ref cJ, .ref cW] = some true := by
  unfold PySem.W.kitAny
  rw [B.wj]
  unfold PySem.W.kitAny
  rw [kit_self]
def NotBd (K : PySem.W.Frag) (H : Hp) (v : V) : Prop := ∃ n : String, (∀ H1, Ex H H1 → TyX K H1 v (.type n)) ∧ noCls n = true
theorem NotBd.mono {K : PySem.W.Frag} {H H' : Hp} {v : V} (e : Ex H H') (h : NotBd K H v) : NotBd K H' v := h.imp fun n z => ⟨fun H1 e1 => z.1 H1 (e.trans e1), z.2⟩
def IsBd (cJ cW : Addr) (v : V) (H : Hp) : Prop := ∃ bd y, v = .ref y ∧ BdAt cJ cW bd y H
theorem IsBd.mono {cJ cW : Addr} {H H' : Hp} {v : V} (e : Ex H H') (h : IsBd cJ cW v H) : IsBd cJ cW v H' := h.imp fun bd z => z.imp fun y z => ⟨z.1, z.2.mono e⟩
def Sq (K : PySem.W.Frag) (H : Hp) (p : Addr) (xs : List V) : Prop := SqL K H p xs ∨ SqT K H p xs
theorem Sq.mono {K : PySem.W.Frag} {H H' : Hp} {p : Addr} {xs : List V} (e : Ex H H') (h : Sq K H p xs) : Sq K H' p xs := h.imp (ex_l e) (ex_t e)
def GoodBs (K : PySem.W.Frag) (cJ cW : Addr) (xs : List V) (bds : List Bd) (H : Hp) : Prop := ∃ ys : List Addr, xs = ys.map V.ref ∧ Paired (fun bd y => BdAt cJ cW bd y H) bds ys ∧ bds.length ≤ 4
def BadBs (K : PySem.W.Frag) (cJ cW : Addr) (xs : List V) (H : Hp) : Prop := 4 < xs.length ∨ (xs.length ≤ 4 ∧ ∃ (i : Nat) (v : V), xs[i]? = some v ∧ NotBd K H v ∧ ∀ j u, j < i → xs[j]? = some u → IsBd cJ cW u H)
section
variable {K : PySem.W.Frag} {σ : L2.St} {H : Hp} {ta : TE} {p : Addr} {xs : List V} {g : TG} {tu : TS} {D : Ends}
theorem ev_lenQ (ha : Ev ta σ H (.ref p)) (hx : Sq K H p xs) : Ev (tCB (fun xs H Q => ∃ p ys, xs = [.ref p] ∧ (SqL K H p ys ∨ SqT K H p ys) ∧ Q (.int ys.length) H) (tCons ta tNil)) σ H (.int (xs.length : Int)) := fun H1 e Q q =>
  ha H1 e _ fun H2 e2 => ⟨p, xs, rfl, hx.mono (e.trans e2), q H2 e2⟩
theorem el_listQ (ha : Ev ta σ H (.ref p)) (h : Sq K H p xs) : EvL (tCB (rListS K) (tCons ta tNil)) σ H xs := fun H1 e Q q =>
  ha H1 e _ fun H2 e2 => ⟨p, xs, rfl, h.mono (e.trans e2), fun l hl => q l _ (fresh_back e2 hl) (e2.trans (Ex.new hl)) upd_same⟩
theorem s_forQ {j : Nat} (h : Ev ta σ H (.ref p)) (hx : Sq K H p xs) (Pv : Nat → L2.St → Hp → Prop) (h0 : ∀ H1, Ex H H1 → Pv 0 σ H1) (hl : ∀ i σ' H', i ≤ xs.length → Pv i σ' H' → Sq K H' p xs)
    (hk : (∃ H1, SqL K H1 p xs) → ∀ i σ' H', i ≤ xs.length → Pv i σ' H' → SqL K H p xs → SqL K H' p xs) (hk2 : ∀ i σ' H', i ≤ xs.length → Pv i σ' H' → SqT K H p xs → SqT K H' p xs)
    (hs : ∀ i x σ' H', xs[i]? = some x → Pv i σ' H' → tu { D with nx := Pv (i + 1), ct := Pv (i + 1), bk := D.nx } (σ'.set j (some x)) H') (hd : ∀ σ' H', Pv xs.length σ' H' → D.nx σ' H') : tFor (iOr2 (iList K ta) (iTup K ta)) (gName j) tu D σ H := by
  rcases hx with hx | hx
  · exact .inl (s_forL (K := K) h hx Pv h0 (fun i σ' H' hi pv => hk ⟨H, hx⟩ i σ' H' hi pv hx) hs hd)
  · exact .inr (s_forT (K := K) h hx Pv h0 (fun i σ' H' hi pv => hk2 i σ' H' hi pv hx) hs hd)
end
theorem fmt_n {n : Int} (h : n.natAbs.log2 < 1920) {H : Hp} {σ : L2.St} : Ev (tFmt (tC (.int n))) σ H (.str (toString n)) := fun H1 _ Q q => .inr ⟨n, rfl, h, q H1 (Ex.refl _)⟩
/-! the checks -/
def spCheckBound (K : PySem.W.Frag) (cJ cW cN : Addr) : Sp := fun vs H Q E => ∃ v, vs = [v] ∧ ((IsBd cJ cW v H ∧ ∀ H2, Ex H H2 → Q .non H2) ∨ (NotBd K H v ∧ ∀ H2, Ex H H2 → E (.ref cN) none H2))
def spCopied (K : PySem.W.Frag) (cJ cW cN : Addr) : Sp := fun vs H Q E => ∃ p xs, vs = [.ref p] ∧ Sq K H p xs ∧ xs.length ≤ 1000 ∧
  ((∃ bds, GoodBs K cJ cW xs bds H ∧ ∀ l H2, H l = none → Ex H H2 → H2 l = some (.lst xs) → Q (.ref l) H2) ∨ (BadBs K cJ cW xs H ∧ ∀ H2, Ex H H2 → E (.ref cN) none H2))
def spChk (K : PySem.W.Frag) (C : Addr) (lo hi : Int) : Sp := fun vs H Q E => ∃ v, vs = [v] ∧ Kd K H v ∧ ((inR v lo hi = true ∧ ∀ H2, Ex H H2 → Q .non H2) ∨ (inR v lo hi = false ∧ ∀ H2, Ex H H2 → E (.ref C) none H2))
section
variable {P : Program} {w : World} {K : PySem.W.Frag} {mg : Str → Option Value} {base : Heap} {cG : Addr} {cs : Nat → Addr} {cJ cW cN : Addr}
theorem cal_check_bound {f : Addr} {fd : FuncData} (T : Blt mg) (G : Gcl mg cG cs cJ cW) (B : BdC K cJ cW) (RB : Rs K mg "NoBound" cN) (F : C8.Def K mg "check_bound" s_check_bound f fd) (b : Binds K fd ["bound"] []) : CalX P w K mg base 1 "check_bound" (spCheckBound K cJ cW cN) := by
  refine calX F b sc_check_bound (fun vs H Q E h => ?_) (fun cdv A outer s H vs Q E hr h => ?_)
  · obtain ⟨v, rfl, _⟩ := h
    rfl
  · obtain ⟨v, rfl, h⟩ := h
    refine ⟨_, (pss_one (ps_if (pt_not (pt_val (pe_callB call_isiT (by rfl) T.b_isinstance boot_isinstance (pa_cons (pv 0) (pa_cons (pe_tup (pa_cons (pe_glob (v := .ref cJ) rfl G.c_Jar rfl) (pa_cons (pe_glob (v := .ref cW) rfl G.c_Window rfl) pa_nil))) pa_nil)))))
    (pss_one (ps_raise rfl (takes_of rfl rfl rfl rfl) (SkE.pmk_own1 PySem.F.excBase_ValueError RB.xP RB.gP RB.kP (raises_own RB.bP RB.tP) rfl pe_str)))
    pss_nil)), ?_⟩
    rcases h with ⟨⟨bd, y, rfl, hb⟩, q⟩ | ⟨⟨n, hn, hc⟩, q⟩
    · have ty : ∃ C, (C = cJ ∨ C = cW) ∧ ∀ H1, Ex H H1 → TyX K H1 (.ref y) (.ref C) := by
        cases bd with
        | jar s f =>
          obtain ⟨dy, hx⟩ := hb
          exact ⟨cJ, .inl rfl, fun H1 e => .base (.ins (e _ _ hx) B.clJ B.fJ.ha B.hn B.ht B.fJ.hm)⟩
        | win s f =>
          obtain ⟨dy, hx⟩ := hb
          exact ⟨cW, .inr rfl, fun H1 e => .base (.ins (e _ _ hx) B.clW B.fW.ha B.hn B.ht B.fW.hm)⟩
      obtain ⟨C, hC, ty⟩ := ty
      have hk : PySem.W.kitAny K (.ref C) [.ref cJ, .ref cW] = some true := by
        rcases hC with rfl | rfl
        · exact kit_any_J
        · exact kit_any_W B
      refine s_when (b := false) (et_not (a := true) (et_B fun H1 e1 Q1 q1 => ?_)) (fun z => by cases z) fun _ H1 e1 => q H1 e1
      refine ⟨_, rfl, (by show 2 ≤ sizeLine; decide), fun tp htp => ?_⟩
      refine ⟨_, tp, [.ref cJ, .ref cW], .ref C, [.ref cJ, .ref cW], true, rfl, upd_same, .cons (.own _) (.cons (.own _) .nil), ty _ (e1.trans (Ex.new htp)), hk, q1 _ (Ex.new htp)⟩
    · refine s_when (b := true) (et_not (a := false) (et_B fun H1 e1 Q1 q1 => ?_)) (fun _ H1 e1 => ?_) fun z => by cases z
      · refine ⟨_, rfl, (by show 2 ≤ sizeLine; decide), fun tp htp => ?_⟩
        refine ⟨_, tp, [.ref cJ, .ref cW], .type n, [.ref cJ, .ref cW], false, rfl, upd_same, .cons (.own _) (.cons (.own _) .nil), hn _ (e1.trans (Ex.new htp)), kit_any_no B hc, q1 _ (Ex.new htp)⟩
      · exact q H1 e1
theorem cal_check_moment {f : Addr} {fd : FuncData} (G : Gcl mg cG cs cJ cW) (RM : Rs K mg "NoMoment" cN) (c_is_within : C8.Cal P w K mg base 1 "is_within" (spF (RWithin K)) []) (F : C8.Def K mg "check_moment" s_check_moment f fd) (b : Binds K fd ["moment"] []) : CalX P w K mg base 2 "check_moment" (spChk K cN 0 1000000000000) := by
  refine calX F b sc_check_moment (fun vs H Q E h => ?_) (fun cdv A outer s H vs Q E hr h => ?_)
  · obtain ⟨v, rfl, _⟩ := h
    rfl
  · obtain ⟨v, rfl, kv, h⟩ := h
    refine ⟨_, (pss_one (ps_if (pt_not (pt_val (C8.pe_c c_is_within hr (by decide) rfl (pa_cons (pv 0) (pa_cons pe_int (pa_cons (C8.pe_gc rfl G.g_LARGEST_MOMENT) pa_nil))))))
    (pss_one (ps_raise rfl (takes_of rfl rfl rfl rfl) (SkE.pmk_own1 PySem.F.excBase_ValueError RM.xP RM.gP RM.kP (raises_own RM.bP RM.tP) rfl (pe_joined (.cons pe_str (.cons (pe_fmt (C8.pe_gc rfl G.g_LARGEST_MOMENT)) .nil))))))
    pss_nil)), ?_⟩
    have e1 : EvT (tNot (tB (tCall (spF (RWithin K)) [] C8.E0 (tCons (tVar 0) (tCons (tC (.int 0)) (tCons (tC (.int 1000000000000)) tNil)))))) (start ["moment"] [v]) H (!inR v 0 1000000000000) := et_not (et_B (ev_callF (ea_cons (ev_var rfl) (ea_cons ev_c (ea_cons ev_c ea_nil))) (rWithinK kv)))
    rcases h with ⟨h, q⟩ | ⟨h, q⟩
    · rw [h] at e1
      exact s_when (b := false) e1 (fun z => by cases z) fun _ H1 g => q H1 g
    · rw [h] at e1
      refine s_when (b := true) e1 (fun _ H1 g => ?_) fun z => by cases z
      refine ⟨_, rfl, by decide, ?_⟩
      exact fmt_n (by decide +kernel) H1 (Ex.refl H1) _ fun H2 g2 => ⟨_, rfl, by decide +kernel, q H2 (g.trans g2)⟩
theorem cal_check_cost {f : Addr} {fd : FuncData} (G : Gcl mg cG cs cJ cW) (RC : Rs K mg "NoCost" cN) (c_is_within : C8.Cal P w K mg base 1 "is_within" (spF (RWithin K)) []) (F : C8.Def K mg "check_cost" s_check_cost f fd) (b : Binds K fd ["cost"] []) : CalX P w K mg base 2 "check_cost" (spChk K cN 1 1000000000) := by
  refine calX F b sc_check_cost (fun vs H Q E h => ?_) (fun cdv A outer s H vs Q E hr h => ?_)
  · obtain ⟨v, rfl, _⟩ := h
    rfl
  · obtain ⟨v, rfl, kv, h⟩ := h
    refine ⟨_, (pss_one (ps_if (pt_not (pt_val (C8.pe_c c_is_within hr (by decide) rfl (pa_cons (pv 0) (pa_cons pe_int (pa_cons (C8.pe_gc rfl G.g_LARGEST_COST) pa_nil))))))
    (pss_one (ps_raise rfl (takes_of rfl rfl rfl rfl) (SkE.pmk_own1 PySem.F.excBase_ValueError RC.xP RC.gP RC.kP (raises_own RC.bP RC.tP) rfl (pe_joined (.cons pe_str (.cons (pe_fmt (C8.pe_gc rfl G.g_LARGEST_COST)) .nil))))))
    pss_nil)), ?_⟩
    have e1 : EvT (tNot (tB (tCall (spF (RWithin K)) [] C8.E0 (tCons (tVar 0) (tCons (tC (.int 1)) (tCons (tC (.int 1000000000)) tNil)))))) (start ["cost"] [v]) H (!inR v 1 1000000000) := et_not (et_B (ev_callF (ea_cons (ev_var rfl) (ea_cons ev_c (ea_cons ev_c ea_nil))) (rWithinK kv)))
    rcases h with ⟨h, q⟩ | ⟨h, q⟩
    · rw [h] at e1
      exact s_when (b := false) e1 (fun z => by cases z) fun _ H1 g => q H1 g
    · rw [h] at e1
      refine s_when (b := true) e1 (fun _ H1 g => ?_) fun z => by cases z
      refine ⟨_, rfl, by decide, ?_⟩
      exact fmt_n (by decide +kernel) H1 (Ex.refl H1) _ fun H2 g2 => ⟨_, rfl, by decide +kernel, q H2 (g.trans g2)⟩
theorem cal_copied_bounds {f : Addr} {fd : FuncData} (T : Blt mg) (G : Gcl mg cG cs cJ cW) (RB : Rs K mg "NoBound" cN) (c_check_bound : CalX P w K mg base 1 "check_bound" (spCheckBound K cJ cW cN)) (F : C8.Def K mg "copied_bounds" s_copied_bounds f fd) (b : Binds K fd ["bounds"] []) : CalX P w K mg base 2 "copied_bounds" (spCopied K cJ cW cN) := by
  refine calX F b sc_copied_bounds (fun vs H Q E h => ?_) (fun cdv A outer s H vs Q E hr h => ?_)
  · obtain ⟨p, xs, rfl, _⟩ := h
    rfl
  · obtain ⟨p, xs, rfl, hx, hl, h⟩ := h
    refine ⟨_, (pss_cons (ps_if (pt_cmpR op_gt (pe_callB call_len_seq (by rfl) T.b_len boot_len (pa_cons (pv 0) pa_nil)) (C8.pe_gc rfl G.g_MOST_BOUNDS) (nomark _))
    (pss_one (ps_raise rfl (takes_of rfl rfl rfl rfl) (SkE.pmk_own1 PySem.F.excBase_ValueError RB.xP RB.gP RB.kP (raises_own RB.bP RB.tP) rfl (pe_joined (.cons pe_str (.cons (pe_fmt (C8.pe_gc rfl G.g_MOST_BOUNDS)) (.cons pe_str .nil)))))))
    pss_nil)
  (pss_cons (ps_for (passes_of rfl) rfl (pi_or2 (pi_list (pv 0)) (pi_tup (pv 0))) (pg_name (i := 1) sc_copied_bounds.nd rfl (Or.inl rfl))
    (pss_one (ps_expr (pe_cX c_check_bound own_takes hr (by decide) rfl (pa_cons (pv 1) pa_nil)))))
  (pss_one (ps_ret (pe_callTy call_list_of (by rfl) T.b_list boot_list (pa_cons (pv 0) pa_nil)))))), ?_⟩
    have tl : EvT (tTest (tOp (rI0 fun i j => V.bl (decide (j < i))) (tCB (fun xs H Q => ∃ p ys, xs = [.ref p] ∧ (SqL K H p ys ∨ SqT K H p ys) ∧ Q (.int ys.length) H) (tCons (tVar 0) tNil)) (tC (.int 4)))) (start ["bounds"] [.ref p]) H (decide ((4 : Int) < (xs.length : Int))) := et_test (ev_op (ev_lenQ (ev_var rfl) hx) ev_c rv_I0)
    have early : ∀ (h4 : 4 < xs.length), (∀ H2, Ex H H2 → E (.ref cN) none H2) → ∀ H1, Ex H H1 → True := fun _ _ _ _ => True.intro
    rcases h with ⟨bds, ⟨ys, rfl, hb, h4⟩, q⟩ | ⟨h, q⟩
    · have len := Paired.length hb
      refine q_when (b := false) (et_is tl (decide_eq_false (by rw [List.length_map]; omega))) (fun z => by cases z) fun _ H1 e1 => ?_
      refine s_forQ (K := K) (j := 1) (ev_var rfl) (hx.mono e1) (fun i σ' H' => (∃ o, σ' = [some (.ref p), o]) ∧ Ex H1 H') (fun H2 e2 => ⟨⟨none, rfl⟩, e2⟩) (fun i σ' H' _ ⟨_, e2⟩ => hx.mono (e1.trans e2)) (fun _ i σ' H' _ ⟨_, e2⟩ z => ex_l e2 z) (fun i σ' H' _ ⟨_, e2⟩ z => ex_t e2 z) (fun i x σ' H' hx' ⟨⟨o, hσ⟩, e2⟩ => ?_) (fun σ' H' ⟨⟨o, hσ⟩, e2⟩ => ?_)
      · subst hσ
        rw [List.getElem?_map] at hx'
        obtain ⟨y, hy, rfl⟩ := Option.map_eq_some_iff.mp hx'
        obtain ⟨bd, _, hBd⟩ := paired_at hb hy
        exact ⟨_, rfl, _, rfl, .inl ⟨⟨bd, y, rfl, hBd.mono (e1.trans e2)⟩, fun H2 e3 => ⟨⟨_, rfl⟩, e2.trans e3⟩⟩⟩
      · subst hσ
        refine s_retL (el_listQ (ev_var rfl) (hx.mono (e1.trans e2))) fun l H3 nl e3 hl3 => q l H3 (fresh_back (e1.trans e2) nl) ((e1.trans e2).trans e3) hl3
    · by_cases h5 : 4 < xs.length
      · refine q_when (b := true) (et_is tl (decide_eq_true (by omega))) (fun _ H1 e1 => ?_) fun z => by cases z
        refine ⟨_, rfl, by decide, ?_⟩
        exact fmt_n (by decide +kernel) H1 (Ex.refl H1) _ fun H2 g2 => ⟨_, rfl, by decide +kernel, ⟨_, rfl, by decide +kernel, q H2 (e1.trans g2)⟩⟩
      · rcases h with h | ⟨_, i0, v0, hv0, nb, ahead⟩
        · exact absurd h h5
        · refine q_when (b := false) (et_is tl (decide_eq_false (by omega))) (fun z => by cases z) fun _ H1 e1 => ?_
          have hi0 : i0 < xs.length := (List.getElem?_eq_some_iff.mp hv0).1
          refine s_forQ (K := K) (j := 1) (ev_var rfl) (hx.mono e1) (fun i σ' H' => (∃ o, σ' = [some (.ref p), o]) ∧ Ex H1 H' ∧ i ≤ i0) (fun H2 e2 => ⟨⟨none, rfl⟩, e2, Nat.zero_le _⟩) (fun i σ' H' _ ⟨_, e2, _⟩ => hx.mono (e1.trans e2)) (fun _ i σ' H' _ ⟨_, e2, _⟩ z => ex_l e2 z) (fun i σ' H' _ ⟨_, e2, _⟩ z => ex_t e2 z) (fun i x σ' H' hx' ⟨⟨o, hσ⟩, e2, hi⟩ => ?_) (fun σ' H' ⟨_, _, hi⟩ => by omega)
          subst hσ
          by_cases e : i = i0
          · subst e
            rw [hv0] at hx'
            cases hx'
            exact ⟨_, rfl, _, rfl, .inr ⟨nb.mono (e1.trans e2), fun H2 e3 => q H2 ((e1.trans e2).trans e3)⟩⟩
          · exact ⟨_, rfl, _, rfl, .inl ⟨(ahead i x (by omega) hx').mono (e1.trans e2), fun H2 e3 => ⟨⟨_, rfl⟩, e2.trans e3, by omega⟩⟩⟩
end
section
variable {P : Program} {w : World} {K : PySem.W.Frag} {mg : Str → Option Value} {base : Heap} {C : Addr}
theorem mak_Jar {f : Addr} {fd : FuncData} (G : Cst mg) (k : ClJar K C) (c_is_within : C8.Cal P w K mg base 1 "is_within" (spF (RWithin K)) []) (M : Mk K C f) (hm : mg "Jar" = some (.ref C)) (F : C8.Fun K "__init__" "Jar.__init__" s_Jar_init f fd) (b : Binds K fd ["self", "size", "flow"] []) : C8.Mak P w K mg base 2 "Jar" C (spI C DJar (JJar C)) [] := by
  obtain ⟨cl, n1, n2⟩ := k
  refine C8.mak0 M hm F b .nil sc_Jar_init (fun vs H Q E h => ?_) (fun cdv A outer s H vs Q E hr h => ?_)
  · obtain ⟨x, dx, as, rfl, _, ⟨s, f, rfl, _⟩, _⟩ := h
    rfl
  · obtain ⟨x, dx, as, rfl, hx, ⟨s, f, rfl, h1, h2, h3, h4⟩, q⟩ := h
    refine ⟨_, (pss_cons (ps_if (pt_not (pt_val (C8.pe_c c_is_within hr (by decide) rfl (pa_cons (pv 1) (pa_cons pe_int (pa_cons (C8.pe_gc rfl G.g_LARGEST_SIZE) pa_nil))))))
    (pss_one ps_never)
    pss_nil)
  (pss_cons (ps_if (pt_not (pt_val (C8.pe_c c_is_within hr (by decide) rfl (pa_cons (pv 2) (pa_cons pe_int (pa_cons (C8.pe_gc rfl G.g_LARGEST_FLOW) pa_nil))))))
    (pss_one ps_never)
    pss_nil)
  (pss_cons (ps_fld (pv 0) (pv 1) rfl)
  (pss_one (ps_fld (pv 0) (pv 2) rfl))))), ?_⟩
    refine Nx.go (nx_if (b := false) (et_not (a := true) (et_B (ev_callF (ea_cons (ev_var rfl) (ea_cons ev_c (ea_cons ev_c ea_nil))) (rWithin (by simp only [decide_eq_true h1, decide_eq_true h2, Bool.and_self]))))) (fun z => by cases z) fun _ => nx_next) fun H1 e1 => ?_
    refine Nx.go (nx_if (b := false) (et_not (a := true) (et_B (ev_callF (ea_cons (ev_var rfl) (ea_cons ev_c (ea_cons ev_c ea_nil))) (rWithin (by simp only [decide_eq_true h3, decide_eq_true h4, Bool.and_self]))))) (fun z => by cases z) fun _ => nx_next) fun H2 e2 => ?_
    replace hx := e2 _ _ (e1 _ _ hx)
    refine ⟨_, rfl, _, rfl, x, C, dx, _, rfl, hx, cl, n1, by show 0 < 1000; decide, ?_⟩
    refine ⟨_, rfl, _, rfl, x, C, dx, _, rfl, upd_same, cl, n2, by show 1 < 1000; decide, ?_⟩
    refine q _ (fun b o hb e => ?_) ⟨s, f, rfl, upd_same⟩
    rw [upd_ne hb, upd_ne hb]
    exact e2 _ _ (e1 _ _ e)
theorem mak_Window {f : Addr} {fd : FuncData} (G : Cst mg) (k : ClWin K C) (c_is_within : C8.Cal P w K mg base 1 "is_within" (spF (RWithin K)) []) (M : Mk K C f) (hm : mg "Window" = some (.ref C)) (F : C8.Fun K "__init__" "Window.__init__" s_Window_init f fd) (b : Binds K fd ["self", "most", "span"] []) : C8.Mak P w K mg base 2 "Window" C (spI C DWin (JWin C)) [] := by
  obtain ⟨cl, n1, n2⟩ := k
  refine C8.mak0 M hm F b .nil sc_Window_init (fun vs H Q E h => ?_) (fun cdv A outer s H vs Q E hr h => ?_)
  · obtain ⟨x, dx, as, rfl, _, ⟨s, f, rfl, _⟩, _⟩ := h
    rfl
  · obtain ⟨x, dx, as, rfl, hx, ⟨s, f, rfl, h1, h2, h3, h4⟩, q⟩ := h
    refine ⟨_, (pss_cons (ps_if (pt_not (pt_val (C8.pe_c c_is_within hr (by decide) rfl (pa_cons (pv 1) (pa_cons pe_int (pa_cons (C8.pe_gc rfl G.g_LARGEST_MOST) pa_nil))))))
    (pss_one ps_never)
    pss_nil)
  (pss_cons (ps_if (pt_not (pt_val (C8.pe_c c_is_within hr (by decide) rfl (pa_cons (pv 2) (pa_cons pe_int (pa_cons (C8.pe_gc rfl G.g_LARGEST_SPAN) pa_nil))))))
    (pss_one ps_never)
    pss_nil)
  (pss_cons (ps_fld (pv 0) (pv 1) rfl)
  (pss_one (ps_fld (pv 0) (pv 2) rfl))))), ?_⟩
    refine Nx.go (nx_if (b := false) (et_not (a := true) (et_B (ev_callF (ea_cons (ev_var rfl) (ea_cons ev_c (ea_cons ev_c ea_nil))) (rWithin (by simp only [decide_eq_true h1, decide_eq_true h2, Bool.and_self]))))) (fun z => by cases z) fun _ => nx_next) fun H1 e1 => ?_
    refine Nx.go (nx_if (b := false) (et_not (a := true) (et_B (ev_callF (ea_cons (ev_var rfl) (ea_cons ev_c (ea_cons ev_c ea_nil))) (rWithin (by simp only [decide_eq_true h3, decide_eq_true h4, Bool.and_self]))))) (fun z => by cases z) fun _ => nx_next) fun H2 e2 => ?_
    replace hx := e2 _ _ (e1 _ _ hx)
    refine ⟨_, rfl, _, rfl, x, C, dx, _, rfl, hx, cl, n1, by show 0 < 1000; decide, ?_⟩
    refine ⟨_, rfl, _, rfl, x, C, dx, _, rfl, upd_same, cl, n2, by show 1 < 1000; decide, ?_⟩
    refine q _ (fun b o hb e => ?_) ⟨s, f, rfl, upd_same⟩
    rw [upd_ne hb, upd_ne hb]
    exact e2 _ _ (e1 _ _ e)
end
/-! the law's bound made -/
def RMade (cJ cW : Addr) (vs : List V) (H : Hp) (W : V → Hp → Prop) : Prop := ∃ p bd, vs = [.ref p] ∧ H p = some (.tup (Bd.tup bd)) ∧ bd.ok ∧ W = fun v H2 => ∃ y, v = .ref y ∧ BdAt cJ cW bd y H2
theorem dj : decide (V.str "jar" = V.str "jar") = true := by decide +kernel
theorem dw : decide (V.str "window" = V.str "jar") = false := by decide +kernel
section
variable {P : Program} {w : World} {K : PySem.W.Frag} {mg : Str → Option Value} {base : Heap} {C M cJ cW : Addr}
theorem cal_Lmade {f : Addr} {fd : FuncData} (m_Jar : C8.Mak P w K mg base 2 "Jar" cJ (spI cJ DJar (JJar cJ)) []) (m_Window : C8.Mak P w K mg base 2 "Window" cW (spI cW DWin (JWin cW)) []) (F : C8.Def K mg "_law_made" s_Lmade f fd) (b : Binds K fd ["_law_bound_here"] []) : C8.Cal P w K mg base 4 "_law_made" (spW (RMade cJ cW)) [] := by
  refine calW F b sc_Lmade (fun vs H v h => ?_) (fun cdv A outer s H vs W E hr h => ?_)
  · obtain ⟨p, bd, rfl, _⟩ := h
    rfl
  · obtain ⟨p, bd, rfl, hp, ok, rfl⟩ := h
    refine ⟨_, (pss_cons (ps_if (pt_cmpR op_eq (pe_ix ix_tup (pv 0) pe_int (fun _ _ => rfl)) pe_str (nomark _))
    (pss_one (ps_ret (C8.pe_mk m_Jar hr (by decide) rfl (pa_cons (pe_ix ix_tup (pv 0) pe_int (fun _ _ => rfl)) (pa_cons (pe_ix ix_tup (pv 0) pe_int (fun _ _ => rfl)) pa_nil)))))
    pss_nil)
  (pss_one (ps_ret (C8.pe_mk m_Window hr (by decide) rfl (pa_cons (pe_ix ix_tup (pv 0) pe_int (fun _ _ => rfl)) (pa_cons (pe_ix ix_tup (pv 0) pe_int (fun _ _ => rfl)) pa_nil)))))), ?_⟩
    have hT : SqT K H p bd.tup := st_of hp
    cases bd with
    | jar s f =>
      have e1 : atI (Bd.tup (.jar s f)) 1 = some (.int s) := rfl
      have e2 : atI (Bd.tup (.jar s f)) 2 = some (.int f) := rfl
      refine rtw_ifseq (b := true) (et_is (et_test (ev_op (ev_ixT (v := .str "jar") (ev_var rfl) ev_c hT rfl) ev_c (rv_eq rfl))) dj) (fun _ => ?_) fun z => by cases z
      refine rtw_ret (EvW.imp (evw_make (vs := [.int s, .int f]) (ea_cons (ev_ixT (ev_var rfl) ev_c hT e1) (ea_cons (ev_ixT (ev_var rfl) ev_c hT e2) ea_nil)) ⟨s, f, rfl, ok⟩) fun v H1 _ ⟨y, dy, w1, s', f', w2, w3⟩ => ?_)
      cases w2
      exact ⟨y, w1, dy, w3⟩
    | win s f =>
      have e1 : atI (Bd.tup (.win s f)) 1 = some (.int s) := rfl
      have e2 : atI (Bd.tup (.win s f)) 2 = some (.int f) := rfl
      refine rtw_ifseq (b := false) (et_is (et_test (ev_op (ev_ixT (v := .str "window") (ev_var rfl) ev_c hT rfl) ev_c (rv_eq rfl))) dw) (fun z => by cases z) fun _ => ?_
      refine rtw_ret (EvW.imp (evw_make (vs := [.int s, .int f]) (ea_cons (ev_ixT (ev_var rfl) ev_c hT e1) (ea_cons (ev_ixT (ev_var rfl) ev_c hT e2) ea_nil)) ⟨s, f, rfl, ok⟩) fun v H1 _ ⟨y, dy, w1, s', f', w2, w3⟩ => ?_)
      cases w2
      exact ⟨y, w1, dy, w3⟩
end
/-! two lists side by side -/
theorem paired_imp {α β : Type} {R S : α → β → Prop} : ∀ {xs : List α} {ys : List β}, Paired R xs ys → (∀ x y, R x y → S x y) → Paired S xs ys
  | [], [], .nil, _ => .nil
  | _ :: _, _ :: _, .cons r h, k => .cons (k _ _ r) (paired_imp h k)
/-! rooms and fields -/
def tPropF (C : Addr) (R : List V → Hp → V → Prop) (ta : TE) : TE := tProp C (spF R) [] C8.E0 ta
structure Prp (P : Program) (w : World) (K : PySem.W.Frag) (mg : Str → Option Value) (base : Heap) (k : Nat) (C : Addr) (f : Str) (sp : Sp) : Prop where
  ex : ∃ (p g : Addr) (fd : FuncData) (ps : List Str), Cls K C ∧ PropOf K C f p g ∧ FnOk P w K mg base C8.CX0 k g fd ps sp ∧ Binds K fd ps []
theorem pe_pr {X : Cx} {k j : Nat} {C : Addr} {f : Str} {sp : Sp} {e : Expr} {pos : Pos} {ta : TE} (c : Prp X.prog X.w X.K X.mg X.base k C f sp) (hr : Room j X.A) (hk : k + 1 ≤ j) (he : PE X e ta) (hab : attributeBase e f X.env (eval e X.env) = eval e X.env := by rfl) : PE X (.Attribute e f pos) (tProp C sp [] C8.E0 ta) := by
  obtain ⟨p, g, fd, ps, h1, h2, F, h3⟩ := c.ex
  exact pe_prop he h1 h2 F (hr.mono hk) h3 .nil C8.pass0 hab
theorem ev_prop {R : List V → Hp → V → Prop} {ta : TE} {σ : L2.St} {H : Hp} {a C dx : Addr} {fs : List (Str × V)} {E : XK} {v : V} (ha : Ev ta σ H (.ref a)) (hx : H a = some (.ins C dx fs)) (hR : ∀ H1, Ex H H1 → R [.ref a] H1 v) : Ev (tProp C (spF R) [] E ta) σ H v := fun H1 e Q q =>
  ha H1 e _ fun H2 e2 => ⟨a, dx, fs, rfl, (e.trans e2) _ _ hx, v, fun H3 e3 => hR H3 ((e.trans e2).trans e3), fun H3 e3 => q H3 (e2.trans e3)⟩
def RGet (C : Addr) (f : Str) (vs : List V) (H : Hp) (v : V) : Prop := ∃ y dy fs, vs = [.ref y] ∧ H y = some (.ins C dy fs) ∧ fs.lookup f = some v
def RRoomJ (C : Addr) (vs : List V) (H : Hp) (v : V) : Prop := ∃ y dy s f a b, vs = [.ref y, .int a, .int b] ∧ H y = some (.ins C dy (fJar s f)) ∧ 0 ≤ f ∧ f ≤ 1000000000 ∧ v = opV (some (s + f * (b - a)))
def RRoomW (C : Addr) (vs : List V) (H : Hp) (v : V) : Prop := ∃ y dy m s a b, vs = [.ref y, .int a, .int b] ∧ H y = some (.ins C dy (fWin m s)) ∧ v = opV (if b - a < s then some m else none)
section
variable {P : Program} {w : World} {K : PySem.W.Frag} {mg : Str → Option Value} {base : Heap} {C : Addr}
theorem met_Jar_room {f : Addr} {fd : FuncData} (k : ClJar K C) (me : Meth K C "room" f) (F : C8.Fun K "room" "Jar.room" s_Jar_room f fd) (b : Binds K fd ["self", "first", "last"] []) : C8.Met P w K mg base 1 C "room" (spF (RRoomJ C)) [] := by
  obtain ⟨cl, n1, n2⟩ := k
  refine metF cl me F b sc_Jar_room (fun vs H v h => ?_) (fun cdv A outer s H vs v E hr h => ?_)
  · obtain ⟨y, dy, s, f, a, b, rfl, _⟩ := h
    rfl
  · obtain ⟨y, dy, s, f, a, b, rfl, hy, f0, f1, rfl⟩ := h
    refine ⟨_, (pss_one (ps_ret (pe_op op_add (pe_fld (pv 0) rfl) (pe_op op_mul (pe_fld (pv 0) rfl) (pe_op op_sub (pv 2) (pv 1)))))), ?_⟩
    show Rt _ _ _ (.int (s + f * (b - a)))
    walk_at "tk_ev"
theorem met_Window_room {f : Addr} {fd : FuncData} (k : ClWin K C) (me : Meth K C "room" f) (F : C8.Fun K "room" "Window.room" s_Window_room f fd) (b : Binds K fd ["self", "first", "last"] []) : C8.Met P w K mg base 1 C "room" (spF (RRoomW C)) [] := by
  obtain ⟨cl, n1, n2⟩ := k
  refine metF cl me F b sc_Window_room (fun vs H v h => ?_) (fun cdv A outer s H vs v E hr h => ?_)
  · obtain ⟨y, dy, m, s, a, b, rfl, _⟩ := h
    rfl
  · obtain ⟨y, dy, m, s, a, b, rfl, hy, rfl⟩ := h
    refine ⟨_, (pss_cons (ps_if (pt_cmpR op_lt (pe_op op_sub (pv 2) (pv 1)) (pe_fld (pv 0) rfl) (nomark _))
    (pss_one (ps_ret (pe_fld (pv 0) rfl)))
    pss_nil)
  (pss_one (ps_ret pe_non))), ?_⟩
    apply rt_ifseq
    · walk_at "tk_ev"
    · intro hb
      have h1 : b - a < s := by simpa using hb
      rw [if_pos h1]
      show Rt _ _ _ (.int m)
      walk_at "tk_ev"
    · intro hb
      have h1 : ¬ b - a < s := by simpa using hb
      rw [if_neg h1]
      walk_at "tk_ev"
end
/-! rooms, sums, what a stretch has beyond its room -/
def mom (vs : List (Int × Int)) (i : Nat) : Int := (vs.getD i (0, 0)).1
def cst (vs : List (Int × Int)) (i : Nat) : Int := (vs.getD i (0, 0)).2
def tot (vs : List (Int × Int)) : Nat → Int
  | 0 => 0
  | i + 1 => tot vs i + cst vs i
def roomB (bd : Bd) (a b : Int) : Option Int := match bd with
  | .jar s f => some (s + f * (b - a))
  | .win m s => if b - a < s then some m else none
def excB (bd : Bd) (vs : List (Int × Int)) (s e : Nat) : Option Int := (roomB bd (mom vs s) (mom vs e)).map fun r => tot vs (e + 1) - tot vs s - r
abbrev frE : List Str := ["bound", "moments", "totals"]
abbrev qE : Str := (("broken" : Str) ++ ".<locals>.") ++ "excess"
abbrev mkE (cl : List (Str × Addr)) (c' : Addr) : NdefX.NF := NdefX.NF.of s_broken_excess "excess" qE cl c'
def RExc (C : Addr) (RR : List V → Hp → V → Prop) (ws : List (Option V)) (as : List V) (H : Hp) (v : V) : Prop := ∃ (b dx mo to : Addr) (fs : List (Str × V)) (ms ts : List Int) (s e : Nat) (r : Option Int), ws = [some (.ref b), some (.ref mo), some (.ref to)] ∧ as = [.int s, .int e] ∧
  H b = some (.ins C dx fs) ∧ fs.lookup ("room" : Str) = none ∧ H mo = some (.lst (ms.map V.int)) ∧ H to = some (.lst (ts.map V.int)) ∧ s < ms.length ∧ e < ms.length ∧ s < ts.length ∧ e + 1 < ts.length ∧ (∀ H1, Ex H H1 → RR [.ref b, .int (ms.getD s 0), .int (ms.getD e 0)] H1 (opV r)) ∧
  v = opV (r.map fun z => ts.getD (e + 1) 0 - ts.getD s 0 - z)
theorem ev_ixI {K : PySem.W.Frag} {σ : L2.St} {H : Hp} {ta tb : TE} {p : Addr} {ns : List Int} {i : Nat} (ha : Ev ta σ H (.ref p)) (hb : Ev tb σ H (.int (i : Int))) (hx : H p = some (.lst (ns.map V.int))) (h : i < ns.length) : Ev (tOp (rIxL K) ta tb) σ H (.int (ns.getD i 0)) := by
  have z := atI_ints (ns := ns) (i := (i : Int)) (by omega) (by omega)
  rw [Int.toNat_natCast] at z
  exact ev_ixL ha hb (sq_of hx) z
section
variable {P : Program} {w : World} {K : PySem.W.Frag} {mg : Str → Option Value} {base : Heap} {C : Addr} {RR : List V → Hp → V → Prop}
theorem nok_excess (t_Jar_room : C8.Met P w K mg base 1 C "room" (spF RR) []) (cl : List (Str × Addr)) (f c' : Addr) : NdefX.NOk P w K mg base C8.CX0 2 f (mkE cl c') ["start", "end"] frE (fun ws => spF (RExc C RR ws)) := by
  refine NdefX.nok_of sc_broken_excess (fun doc pm ctv us hl => ?_) (fun ws vs H Q E ⟨v, h, _⟩ => ?_) (fun A outer s H vs ws Q E hr _ _ _ ⟨v, h, q⟩ => ?_)
  · match us, hl with
    | [_, _], _ => rfl
  · obtain ⟨b, dx, mo, to, fs, ms, ts, s, e, r, _, rfl, _⟩ := h H (Ex.refl H)
    rfl
  · obtain ⟨b, dx, mo, to, fs, ms, ts, s0, e0, r, rfl, rfl, hb, hl, hm, ht, l1, l2, l3, l4, hR, rfl⟩ := h H (Ex.refl H)
    refine ⟨_, (pss_cons (ps_set (i := 5) sc_broken_excess.nd rfl (Or.inl rfl) (C8.pe_mt t_Jar_room hr (by decide) (pv 2) (pa_cons (pe_ix ix_list (pv 3) (pv 0) (fun _ _ => rfl)) (pa_cons (pe_ix ix_list (pv 3) (pv 1) (fun _ _ => rfl)) pa_nil))))
  (pss_cons (ps_if (pt_cmp (pc_isN (pv 5)))
    (pss_one (ps_ret pe_non))
    pss_nil)
  (pss_one (ps_ret (pe_op op_sub (pe_op op_sub (pe_ix ix_list (pv 4) (pe_op op_add (pv 1) pe_int) (fun _ _ => rfl)) (pe_ix ix_list (pv 4) (pv 0) (fun _ _ => rfl))) (pv 5)))))), ?_⟩
    refine Rt.fin ?_ q
    refine rt_seq (nx_asg (v := opV r) (ev_methF (ev_var rfl) hb hl (ea_cons (ev_ixI (ev_var rfl) (ev_var rfl) hm l1) (ea_cons (ev_ixI (ev_var rfl) (ev_var rfl) hm l2) ea_nil)) hR)) ?_
    cases r with
    | none => exact rt_ifseq (b := true) (et_test (ev_isN (ev_var (v := .non) rfl))) (fun _ => rt_ret ev_c) fun z => by cases z
    | some z => exact rt_ifseq (b := false) (et_test (ev_isN (ev_var (v := .int z) rfl))) (fun z => by cases z) fun _ => rt_ret (ev_op (ev_op (ev_ixI (i := e0 + 1) (ev_var rfl) (ev_op (ev_var rfl) ev_c rv_I0) ht l4) (ev_ixI (ev_var rfl) (ev_var rfl) ht l3) rv_I0) (ev_var (v := .int z) rfl) rv_I0)
end
/-! the sums ahead of each visit -/
def totsL (vs : List (Int × Int)) : List Int := (List.range (vs.length + 1)).map (tot vs)
def totsU (vs : List (Int × Int)) (n : Nat) : List Int := (List.range (n + 1)).map (tot vs)
theorem totsU_succ (vs : List (Int × Int)) (n : Nat) : totsU vs (n + 1) = totsU vs n ++ [tot vs n + cst vs n] := by
  unfold totsU
  rw [List.range_succ, List.map_append]
  rfl
theorem totsU_last (vs : List (Int × Int)) (n : Nat) : ∃ l, totsU vs n = l ++ [tot vs n] := by
  unfold totsU
  rw [List.range_succ, List.map_append]
  exact ⟨_, rfl⟩
theorem totsU_len (vs : List (Int × Int)) (n : Nat) : (totsU vs n).length = n + 1 := by
  unfold totsU
  rw [List.length_map, List.length_range]
theorem totL_at (vs : List (Int × Int)) {i : Nat} (h : i ≤ vs.length) : (totsL vs).getD i 0 = tot vs i := by
  unfold totsL
  rw [List.getD_eq_getElem?_getD, List.getElem?_map, List.getElem?_range (by omega)]
  rfl
def RTot (vs : List V) (H : Hp) (W : V → Hp → Prop) : Prop := ∃ l rs, vs = [.ref l] ∧ PairsT H l rs ∧ rs.length ≤ 300 ∧ W = fun v H2 => ∃ p, v = .ref p ∧ H2 p = some (.lst ((totsL rs).map V.int))
section
variable {P : Program} {w : World} {K : PySem.W.Frag} {mg : Str → Option Value} {base : Heap}
theorem cal_totals_ahead {f : Addr} {fd : FuncData} (F : C8.Def K mg "_totals_ahead" s_totals_ahead f fd) (b : Binds K fd ["visits"] []) : C8.Cal P w K mg base 1 "_totals_ahead" (spW RTot) [] := by
  refine calW F b sc_totals_ahead (fun vs H v h => ?_) (fun cdv A outer s H vs W E hr h => ?_)
  · obtain ⟨l, rs, rfl, _⟩ := h
    rfl
  · obtain ⟨l, rs, rfl, hP, hn, rfl⟩ := h
    refine ⟨_, (pss_cons (ps_set (i := 1) sc_totals_ahead.nd rfl (Or.inl rfl) (pe_lst (pa_cons pe_int pa_nil)))
  (pss_cons (ps_for PassesOwn.never rfl (pi_list (pv 0)) (pg_tup rfl (pgs_cons (pg_name (i := 2) sc_totals_ahead.nd rfl (Or.inl rfl)) (pgs_cons (pg_name (i := 3) sc_totals_ahead.nd rfl (Or.inl rfl)) pgs_nil)))
    (pss_one (ps_expr (pe_bm PySem.F.plainAttrs_list PySem.F.slot_list_append PySem.F.type_list_append mt_append (pv 1) (pa_cons (pe_op op_add (pe_ix ix_list (pv 1) (pe_un un_neg pe_int) (fun _ _ => rfl)) (pv 3)) pa_nil)))))
  (pss_one (ps_ret (pv 1))))), ?_⟩
    intro H1 e1 D q
    refine q_asgL (xs := [.int 0]) (el_lst (ea_cons ev_c ea_nil) (by decide)) fun p H2 np e2 hp => ?_
    obtain ⟨ps, hl, hps⟩ := hP.mono e1
    have len : (ps.map V.ref).length = rs.length := by rw [List.length_map]; exact hps.len
    refine q_forL (K := K) (a := l) (xs := ps.map V.ref) (ev_var rfl) (sq_of (e2 _ _ hl)) (fun i σ' H' => ∃ o2 o3, σ' = [some (.ref l), some (.ref p), o2, o3] ∧ Ex H1 H' ∧ H' p = some (.lst ((totsU rs i).map V.int))) (fun H3 e3 => ⟨_, _, rfl, e2.trans e3, e3 _ _ hp⟩) (fun i σ' H' _ ⟨_, _, _, e, _⟩ => sq_of (e _ _ hl)) (fun i x σ' H' hx ⟨o2, o3, hσ, e, hp'⟩ => ?_) fun σ' H' ⟨o2, o3, hσ, e, hp'⟩ => ?_
    · subst hσ
      rw [List.getElem?_map] at hx
      obtain ⟨t, ht, et⟩ := Option.map_eq_some_iff.mp hx
      subst et
      have hi : i < rs.length := by
        rw [← hps.len]
        exact (List.getElem?_eq_some_iff.mp ht).1
      obtain ⟨t', ht', tt⟩ := hps.at (getD_some hi)
      rw [ht] at ht'
      cases ht'
      refine ⟨t, [.int (mom rs i), .int (cst rs i)], rfl, st_of (e _ _ tt), rfl, _, _, rfl, _, _, rfl, rfl, ?_⟩
      obtain ⟨ini, hini⟩ := totsU_last rs i
      have hat : atI ((totsU rs i).map V.int) (-1) = some (.int (tot rs i)) := by
        rw [hini, List.map_append]
        exact atI_last _ _
      refine s_app (xs := (totsU rs i).map V.int) hp' (ev_var rfl) (ev_op (ev_ixL (ev_var rfl) (ev_un ev_c ru_neg) (sq_of hp') hat) (ev_var rfl) rv_I0) (by rw [List.length_map, totsU_len]; omega) fun H4 e4 => ⟨_, _, rfl, Ex.mut (e.trans e4) np, ?_⟩
      rw [upd_same, totsU_succ, List.map_append]
      rfl
    · subst hσ
      rw [len] at hp'
      exact s_ret (ev_var rfl) fun H4 e4 => q _ H4 (e.trans e4) ⟨p, rfl, e4 _ _ hp'⟩
end
/-! which start is the first, which end the best: the mathematics -/
theorem VOk.mono {vs : List (Int × Int)} (h : VOk vs) : ∀ i j, i ≤ j → j < vs.length → mom vs i ≤ mom vs j := h.rise
theorem tot_le {vs : List (Int × Int)} (h : VOk vs) {i : Nat} : ∀ {j : Nat}, i ≤ j → j ≤ vs.length → tot vs i ≤ tot vs j
  | 0, hij, _ => by
    obtain rfl : i = 0 := by omega
    exact Int.le_refl _
  | j + 1, hij, hj => by
    by_cases e : i = j + 1
    · rw [e]
      exact Int.le_refl _
    · have z := tot_le h (i := i) (j := j) (by omega) (by omega)
      have c : 1 ≤ cst vs j := h.cost j (by omega)
      show tot vs i ≤ tot vs j + cst vs j
      omega
theorem exc_jar (S f : Int) (vs : List (Int × Int)) (s e : Nat) : excB (.jar S f) vs s e = some (tot vs (e + 1) - tot vs s - (S + (f * mom vs e - f * mom vs s))) := by
  show some (tot vs (e + 1) - tot vs s - (S + f * (mom vs e - mom vs s))) = _
  rw [Int.mul_sub]
theorem exc_win (M p : Int) (vs : List (Int × Int)) (s e : Nat) : excB (.win M p) vs s e = if mom vs e - mom vs s < p then some (tot vs (e + 1) - tot vs s - M) else none := by
  unfold excB roomB
  by_cases h : mom vs e - mom vs s < p
  · simp only [if_pos h]
    rfl
  · simp only [if_neg h]
    rfl
theorem exc_self {bd : Bd} (h : bd.ok) (vs : List (Int × Int)) (s : Nat) : ∃ y, excB bd vs s s = some y := by
  cases bd with
  | jar S f => exact ⟨_, exc_jar S f vs s s⟩
  | win M p =>
    have hp : 1 ≤ p := h.2.2.1
    rw [exc_win, if_pos (by omega)]
    exact ⟨_, rfl⟩
structure Best (bd : Bd) (vs : List (Int × Int)) (s E : Nat) (y : Int) : Prop where
  le : s ≤ E
  lt : E < vs.length
  val : excB bd vs s E = some y
  top : ∀ e z, s ≤ e → e < vs.length → excB bd vs s e = some z → z ≤ y
  far : ∀ m p, bd = .win m p → ∀ e, E < e → e < vs.length → excB bd vs s e = none
theorem best_step {bd : Bd} {vs : List (Int × Int)} (ok : VOk vs) {s E E' : Nat} {y y' y0 : Int} (h : Best bd vs (s + 1) E y) (h1 : s ≤ E') (h2 : E' ≤ E) (hn : ∀ e, E' < e → e ≤ E → excB bd vs s e = none) (hv : excB bd vs s E' = some y') (h0 : excB bd vs s s = some y0) :
    Best bd vs s (if y0 > y' then s else E') (if y0 > y' then y0 else y') := by
  have hlt := h.lt
  cases bd with
  | jar S f =>
    obtain rfl : E' = E := by
      by_cases z : E' < E
      · have q := hn E z (Nat.le_refl _)
        rw [exc_jar] at q
        cases q
      · omega
    have v1 := h.val
    rw [exc_jar] at v1 hv h0
    injection v1 with v1
    injection hv with hv
    injection h0 with h0
    have tp : ∀ e, s + 1 ≤ e → e < vs.length → tot vs (e + 1) - tot vs (s + 1) - (S + (f * mom vs e - f * mom vs (s + 1))) ≤ y := fun e a b => h.top e _ a b (exc_jar S f vs (s + 1) e)
    have tp2 : ∀ e z, s ≤ e → e < vs.length → excB (.jar S f) vs s e = some z → z ≤ y' ∨ z = y0 := fun e z a b q => by
      rw [exc_jar] at q
      injection q with q
      by_cases es : e = s
      · subst es
        exact .inr (by omega)
      · have z1 := tp e (by omega) b
        exact .inl (by omega)
    by_cases g : y0 > y'
    · rw [if_pos g, if_pos g]
      exact ⟨Nat.le_refl _, by omega, by rw [exc_jar, h0], fun e z a b q => by rcases tp2 e z a b q with w | w <;> omega, fun m p z => by cases z⟩
    · rw [if_neg g, if_neg g]
      exact ⟨h1, by omega, by rw [exc_jar, hv], fun e z a b q => by rcases tp2 e z a b q with w | w <;> omega, fun m p z => by cases z⟩
  | win M p =>
    have w1 : mom vs E' - mom vs s < p := by
      by_cases q : mom vs E' - mom vs s < p
      · exact q
      · rw [exc_win, if_neg q] at hv
        cases hv
    rw [exc_win, if_pos w1] at hv
    injection hv with hv
    have w0 : y0 = tot vs (s + 1) - tot vs s - M := by
      by_cases q : mom vs s - mom vs s < p
      · rw [exc_win, if_pos q] at h0
        injection h0 with h0
        omega
      · rw [exc_win, if_neg q] at h0
        cases h0
    have t1 := tot_le ok (i := s + 1) (j := E' + 1) (by omega) (by omega)
    have g : ¬ y0 > y' := by omega
    rw [if_neg g, if_neg g]
    have out : ∀ e, E' < e → e < vs.length → excB (.win M p) vs s e = none := fun e a b => by
      by_cases q : e ≤ E
      · exact hn e a q
      · have z := h.far M p rfl e (by omega) b
        have ms := ok.mono s (s + 1) (by omega) (by omega)
        rw [exc_win] at z ⊢
        by_cases q2 : mom vs e - mom vs (s + 1) < p
        · rw [if_pos q2] at z
          cases z
        · rw [if_neg (by omega)]
    refine ⟨h1, by omega, by rw [exc_win, if_pos w1, hv], fun e z a b q => ?_, fun _ _ _ => out⟩
    by_cases c : E' < e
    · rw [out e c b] at q
      cases q
    · have t2 := tot_le ok (i := e + 1) (j := E' + 1) (by omega) (by omega)
      rw [exc_win] at q
      by_cases q2 : mom vs e - mom vs s < p
      · rw [if_pos q2] at q
        injection q with q
        omega
      · rw [if_neg q2] at q
        cases q
theorem best_last {bd : Bd} {vs : List (Int × Int)} {s : Nat} {y : Int} (hs : s + 1 = vs.length) (h0 : excB bd vs s s = some y) : Best bd vs s s y :=
  ⟨Nat.le_refl _, by omega, h0, fun e z a b q => by
    obtain rfl : e = s := by omega
    rw [h0] at q
    injection q with q
    omega, fun _ _ _ e a b => by omega⟩
def PosP (bd : Bd) (vs : List (Int × Int)) (s : Nat) : Prop := ∃ e z, s ≤ e ∧ e < vs.length ∧ excB bd vs s e = some z ∧ 0 < z
theorem best_pos {bd : Bd} {vs : List (Int × Int)} {s E : Nat} {y : Int} (h : Best bd vs s E y) : PosP bd vs s ↔ 0 < y :=
  ⟨fun ⟨e, z, a, b, q, hz⟩ => by
    have := h.top e z a b q
    omega, fun hy => ⟨E, y, h.le, h.lt, h.val, hy⟩⟩
/-- r is the least s from lo on that has p -/
def LFr (p : Nat → Prop) (lo n : Nat) (r : Option Nat) : Prop := match r with
  | none => ∀ s, lo ≤ s → s < n → ¬ p s
  | some s => lo ≤ s ∧ s < n ∧ p s ∧ ∀ s', lo ≤ s' → s' < s → ¬ p s'
theorem lfr_yes {p : Nat → Prop} {s n : Nat} (h : s < n) (hp : p s) : LFr p s n (some s) := ⟨Nat.le_refl _, h, hp, fun s' a b => by omega⟩
theorem lfr_no {p : Nat → Prop} {s n : Nat} {r : Option Nat} (h : LFr p (s + 1) n r) (hp : ¬ p s) : LFr p s n r := by
  cases r with
  | none =>
    intro s' a b
    by_cases e : s' = s
    · rw [e]
      exact hp
    · exact h s' (by omega) b
  | some t =>
    obtain ⟨h1, h2, h3, h4⟩ := h
    refine ⟨by omega, h2, h3, fun s' a b => ?_⟩
    by_cases e : s' = s
    · rw [e]
      exact hp
    · exact h4 s' (by omega) b
theorem lfr_one {p : Nat → Prop} {lo n : Nat} {r t : Option Nat} (h : LFr p lo n r) (k : LFr p lo n t) : r = t := by
  cases r with
  | none => cases t with
    | none => rfl
    | some b => exact absurd k.2.2.1 (h b k.1 k.2.1)
  | some a => cases t with
    | none => exact absurd h.2.2.1 (k a h.1 h.2.1)
    | some b =>
      have h1 : ¬ a < b := fun z => k.2.2.2 a h.1 z h.2.2.1
      have h2 : ¬ b < a := fun z => h.2.2.2 b k.1 z k.2.2.1
      obtain rfl : a = b := by omega
      rfl
theorem lfr_is (p : Nat → Prop) (n : Nat) : ∀ (d lo : Nat), lo + d = n → ∃ r, LFr p lo n r
  | 0, lo, h => ⟨none, fun s a b => by omega⟩
  | d + 1, lo, h => by
    by_cases hp : p lo
    · exact ⟨some lo, lfr_yes (by omega) hp⟩
    · obtain ⟨r, hr⟩ := lfr_is p n d (lo + 1) (by omega)
      exact ⟨r, lfr_no hr hp⟩
theorem lfr_ex (p : Nat → Prop) (lo n : Nat) : ∃ r, LFr p lo n r := by
  by_cases h : lo ≤ n
  · exact lfr_is p n (n - lo) lo (by omega)
  · exact ⟨none, fun s a b => by omega⟩
def natV (r : Option Nat) : V := opV (r.map fun s => (s : Int))
/-! the first start from which a stretch is broken -/
def RFS (RX : List (Option V) → List V → Hp → V → Prop) (cl : List (Str × Addr)) (ws : List (Option V)) (vs : List V) (H : Hp) (v : V) : Prop := ∃ (fe c' : Addr) (bd : Bd) (rs : List (Int × Int)) (r : Option Nat), vs = [.int (rs.length : Int), .ref fe] ∧ H fe = some (NdefX.FnO fe (mkE cl c')) ∧ H c' = some (LamX.CodeO c' qE) ∧
  VOk rs ∧ bd.ok ∧ rs.length ≤ 300 ∧ (∀ (s e : Nat), s ≤ e → e < rs.length → ∀ H1, Ex H H1 → RX ws [.int (s : Int), .int (e : Int)] H1 (opV (excB bd rs s e))) ∧ LFr (PosP bd rs) 0 rs.length r ∧ v = natV r
theorem fs_at {n i s : Nat} (h : s + 1 + i = n) : (0 + ((((n : Int) - 0).toNat : Nat) : Int) - 1 + (i : Int) * -1) = (s : Int) := by omega
theorem fs_ex {n i : Nat} (h : i < n) : ∃ s : Nat, s + 1 + i = n := ⟨n - 1 - i, by omega⟩
theorem fs_lt {n i : Nat} (h : i < ((n : Int) - 0).toNat) : i < n := by omega
theorem fs_l1 {n i s : Nat} (h : s + 1 + i = n) : n - i = s + 1 := by omega
theorem fs_l2 {n i s : Nat} (h : s + 1 + i = n) : n - (i + 1) = s := by omega
def fsS (n fe : V) (r : Option Nat) (E : Int) (o : Option V) : L2.St := [some n, some fe, some (natV r), some (.int E), o]
section
variable {P : Program} {w : World} {K : PySem.W.Frag} {mg : Str → Option Value} {base : Heap}
theorem cal_first_start {RX : List (Option V) → List V → Hp → V → Prop} {f : Addr} {fd : FuncData} (T : Blt mg) (Fn : ∀ cl f c', NdefX.NOk P w K mg base C8.CX0 2 f (mkE cl c') ["start", "end"] frE (fun ws => spF (RX ws))) (F : C8.Def K mg "_first_start" s_first_start f fd) (b : Binds K fd ["many", "excess"] []) :
    CalC P w K mg base 3 "_first_start" frE (fun cl ws => spF (RFS RX cl ws)) := by
  refine ⟨f, fd, _, fun cl ws => fn0C F.fn sc_first_start (fun vs H Q E ⟨v, h, _⟩ => ?_) (fun cdv A outer s H vs Q E hr C0 far ⟨v, h, q⟩ => ?_), F.mgf, F.kp, b⟩
  · obtain ⟨fe, c', bd, rs, r, rfl, _⟩ := h H (Ex.refl H)
    rfl
  · obtain ⟨fe, c', bd, rs, r, rfl, hf, hc, ok, bok, hn, hX, hr0, rfl⟩ := h H (Ex.refl H)
    have fnX := Fn cl
    have hclX : ∀ c', (mkE cl c').cl = cl := fun _ => rfl
    refine ⟨_, (pss_cons (ps_set (i := 2) sc_first_start.nd rfl (Or.inl rfl) pe_non)
  (pss_cons (ps_set (i := 3) sc_first_start.nd rfl (Or.inl rfl) (pe_op op_sub (pv 0) pe_int))
  (pss_cons (ps_for PassesOwn.never rfl (pi_revR (by rfl) T.b_reversed (prg_1 (by rfl) T.b_range (pv 0))) (pg_name (i := 4) sc_first_start.nd rfl (Or.inl rfl))
    (pss_cons (ps_while PassesOwn.never (pt_cmp (pc_isN (pe_callG (i := 1) (wsOf := (fun _ => ws)) fnX hclX (fun _ _ _ _ I => cells_later I rfl C0 far) hr (by decide) rfl (Or.inl rfl) (pa_cons (pv 4) (pa_cons (pv 3) pa_nil)))))
      (pss_one (ps_aug (i := 3) sc_first_start.nd rfl (Or.inl rfl) pe_int ip_sub)))
    (pss_cons (ps_if (pt_cmpR op_gt (pe_callG (i := 1) (wsOf := (fun _ => ws)) fnX hclX (fun _ _ _ _ I => cells_later I rfl C0 far) hr (by decide) rfl (Or.inl rfl) (pa_cons (pv 4) (pa_cons (pv 4) pa_nil))) (pe_callG (i := 1) (wsOf := (fun _ => ws)) fnX hclX (fun _ _ _ _ I => cells_later I rfl C0 far) hr (by decide) rfl (Or.inl rfl) (pa_cons (pv 4) (pa_cons (pv 3) pa_nil))) (nomark _))
      (pss_one (ps_set (i := 3) sc_first_start.nd rfl (Or.inl rfl) (pv 4)))
      pss_nil)
    (pss_one (ps_if (pt_cmpR op_gt (pe_callG (i := 1) (wsOf := (fun _ => ws)) fnX hclX (fun _ _ _ _ I => cells_later I rfl C0 far) hr (by decide) rfl (Or.inl rfl) (pa_cons (pv 4) (pa_cons (pv 3) pa_nil))) pe_int (nomark _))
      (pss_one (ps_set (i := 2) sc_first_start.nd rfl (Or.inl rfl) (pv 4)))
      pss_nil)))))
  (pss_one (ps_ret (pv 2)))))), ?_⟩
    refine Rt.fin ?_ q
    have callAt : ∀ {σ : L2.St} {ta tb : TE} {s e : Nat}, σ[1]? = some (some (.ref fe)) → Ev ta σ H (.int (s : Int)) → Ev tb σ H (.int (e : Int)) → s ≤ e → e < rs.length → Ev (tCallG (mkE cl) 1 (fun _ => ws) (fun ws => spF (RX ws)) (tCons ta (tCons tb tNil))) σ H (opV (excB bd rs s e)) := fun h1 ha hb hs he =>
      ev_callG h1 hf hc (ea_cons ha (ea_cons hb ea_nil)) (hX _ _ hs he)
    refine rt_seq (nx_asg (v := natV none) ev_c) ?_
    refine rt_seq (nx_asg (v := .int ((rs.length : Int) - 1)) (ev_op (ev_var rfl) ev_c rv_I0)) ?_
    refine rt_seqP (P := fun σ => ∃ E o, σ = fsS (.int (rs.length : Int)) (.ref fe) r E o) (NxP.imp (nxp_for (fun i σ => ∃ (t : Option Nat) (E : Int) (o : Option V), σ = fsS (.int (rs.length : Int)) (.ref fe) t E o ∧ LFr (PosP bd rs) (rs.length - i) rs.length t ∧ (i = 0 → E = (rs.length : Int) - 1) ∧ (0 < i → ∃ (B : Nat) (y : Int), E = (B : Int) ∧ Best bd rs (rs.length - i) B y))
      ⟨none, _, none, rfl, fun s a b => by omega, fun _ => rfl, fun z => by omega⟩ (ei_revR (ev_var rfl) (by omega) (by omega)) fun i σ hi ⟨t, E, o, hσ, ht, hE0, hE1⟩ => gnxp_name ?_) fun σ ⟨t, E, o, hσ, ht, _, _⟩ => ?_) fun σ ⟨E, o, hσ⟩ => ?_
    · -- a turn: the start s
      subst hσ
      have hi2 : i < rs.length := fs_lt hi
      obtain ⟨s, hs⟩ := fs_ex hi2
      rw [fs_at hs]
      have l1 : rs.length - i = s + 1 := fs_l1 hs
      have l2 : rs.length - (i + 1) = s := fs_l2 hs
      rw [l1] at ht hE1
      rw [l2]
      obtain ⟨y0, h0⟩ := exc_self bok rs s
      -- where the end stands, and what a step from there gives
      have pre : ∃ B : Nat, E = (B : Int) ∧ s ≤ B ∧ B < rs.length ∧ ∀ B' y', s ≤ B' → B' ≤ B → (∀ e, B' < e → e ≤ B → excB bd rs s e = none) → excB bd rs s B' = some y' → Best bd rs s (if y0 > y' then s else B') (if y0 > y' then y0 else y') := by
        by_cases iz : i = 0
        · refine ⟨s, by rw [hE0 iz]; omega, Nat.le_refl _, by omega, fun B' y' a b _ hv => ?_⟩
          obtain rfl : B' = s := by omega
          rw [h0] at hv
          injection hv with hv
          subst hv
          rw [if_neg (by omega), if_neg (by omega)]
          exact best_last (by omega) h0
        · obtain ⟨B, y, eB, hB⟩ := hE1 (by omega)
          exact ⟨B, eB, by have := hB.le; omega, hB.lt, fun B' y' a b c hv => best_step ok hB a b c hv h0⟩
      obtain ⟨B, eB, sB, Bn, step⟩ := pre
      subst eB
      -- while none: end goes back
      refine nxp_seqP (P := fun σ => ∃ (B' : Nat) (y' : Int), σ = fsS (.int (rs.length : Int)) (.ref fe) t (B' : Int) (some (.int (s : Int))) ∧ s ≤ B' ∧ B' ≤ B ∧ (∀ e, B' < e → e ≤ B → excB bd rs s e = none) ∧ excB bd rs s B' = some y')
        (nxp_while (fun σ => ∃ B' : Nat, σ = fsS (.int (rs.length : Int)) (.ref fe) t (B' : Int) (some (.int (s : Int))) ∧ s ≤ B' ∧ B' ≤ B ∧ ∀ e, B' < e → e ≤ B → excB bd rs s e = none) (fun σ => match σ with | [_, _, _, some (.int z), _] => z.toNat | _ => 0) ⟨B, rfl, sB, Nat.le_refl _, fun e a b => by omega⟩ fun σ ⟨B', hσ, a1, a2, a3⟩ => ?_) fun σ ⟨B', y', hσ, a1, a2, a3, hv⟩ => ?_
      · subst hσ
        have hlt : B' < rs.length := by omega
        refine ⟨_, et_test (ev_isN (callAt (s := s) (e := B') rfl (ev_var rfl) (ev_var rfl) a1 hlt)), fun hb => ?_, fun hb => ?_⟩
        · have hz : excB bd rs s B' = none := by
            cases e : excB bd rs s B' with
            | none => rfl
            | some z =>
              rw [e] at hb
              exact absurd (of_decide_eq_true hb) (by intro z; cases z)
          have hne : B' ≠ s := fun z => by
            rw [z, h0] at hz
            cases hz
          refine nxp_of (nx_aug (a := (B' : Int)) (d := 1) rfl ev_c) ⟨⟨B' - 1, ?_, by omega, by omega, fun e a b => ?_⟩, ?_⟩
          · have ez : (B' : Int) - 1 = ((B' - 1 : Nat) : Int) := by omega
            rw [← ez]
            rfl
          · by_cases eq : e = B'
            · rw [eq]
              exact hz
            · exact a3 e (by omega) b
          · show ((B' : Int) - 1).toNat < (B' : Int).toNat
            omega
        · cases e : excB bd rs s B' with
          | none =>
            rw [e] at hb
            exact absurd rfl (of_decide_eq_false hb)
          | some z => exact ⟨B', z, rfl, a1, a2, a3, e⟩
      · subst hσ
        have best := step B' y' a1 a2 a3 hv
        have hlt : B' < rs.length := by omega
        refine nxp_seqP (P := fun σ => σ = fsS (.int (rs.length : Int)) (.ref fe) t (((if y0 > y' then s else B' : Nat) : Nat) : Int) (some (.int (s : Int)))) (nxp_if (b := decide (y0 > y')) (et_test (ev_op (ev_is (callAt (s := s) (e := s) rfl (ev_var rfl) (ev_var rfl) (Nat.le_refl _) (by omega)) (by rw [h0]; rfl)) (ev_is (callAt (s := s) (e := B') rfl (ev_var rfl) (ev_var rfl) a1 hlt) (by rw [hv]; rfl)) rv_I0)) (fun g => ?_) fun g => ?_) fun σ hσ => ?_
        · rw [if_pos (of_decide_eq_true g)]
          exact nxp_of (nx_asg (v := .int (s : Int)) (ev_var rfl)) rfl
        · rw [if_neg (of_decide_eq_false g)]
          exact nxp_of nx_next rfl
        · subst hσ
          generalize hB2 : (if y0 > y' then s else B' : Nat) = B2 at best ⊢
          generalize (if y0 > y' then y0 else y') = y2 at best
          refine nxp_if (b := decide (y2 > 0)) (et_test (ev_op (ev_is (callAt (s := s) (e := B2) rfl (ev_var rfl) (ev_var rfl) best.le best.lt) (by rw [best.val]; rfl)) ev_c rv_I0)) (fun g => ?_) fun g => ?_
          · exact nxp_of (nx_asg (v := .int (s : Int)) (ev_var rfl)) ⟨some s, _, _, rfl, lfr_yes (by omega) ((best_pos best).mpr (of_decide_eq_true g)), fun z => by omega, fun _ => ⟨B2, y2, rfl, best⟩⟩
          · exact nxp_of nx_next ⟨t, _, _, rfl, lfr_no ht fun z => of_decide_eq_false g ((best_pos best).mp z), fun z => by omega, fun _ => ⟨B2, y2, rfl, best⟩⟩
    · have en : (((rs.length : Int) - 0).toNat) = rs.length := by omega
      rw [en, Nat.sub_self] at ht
      obtain rfl := lfr_one ht hr0
      exact ⟨E, o, hσ⟩
    · subst hσ
      exact rt_ret (ev_var rfl)
end
/-! the first broken stretch -/
def Over (bd : Bd) (rs : List (Int × Int)) (s e : Nat) : Prop := ∃ z, excB bd rs s e = some z ∧ 0 < z
def BFst (bd : Bd) (rs : List (Int × Int)) (r : Option (Int × Int)) : Prop := ∃ t : Option Nat, LFr (PosP bd rs) 0 rs.length t ∧ match t with
  | none => r = none
  | some s => ∃ e, s ≤ e ∧ e < rs.length ∧ Over bd rs s e ∧ (∀ e', s ≤ e' → e' < e → ¬ Over bd rs s e') ∧ r = some (mom rs s, mom rs e)
def VR (r : Option (Int × Int)) (v : V) (H : Hp) : Prop := match r with
  | none => v = .non
  | some q => ∃ p, v = .ref p ∧ H p = some (.tup [.int q.1, .int q.2])
def spBrk (T : List NdefX.NTab) (cJ cW : Addr) : Sp := fun vs H Q _ => ∃ (b l : Addr) (bd : Bd) (rs : List (Int × Int)) (r : Option (Int × Int)), vs = [.ref b, .ref l] ∧ BdAt cJ cW bd b H ∧ PairsT H l rs ∧ VOk rs ∧ bd.ok ∧ rs.length ≤ 300 ∧ NdefX.TabsN T H ∧ BFst bd rs r ∧
  ∀ v H', LamX.ExtN H H' → NdefX.TabsN T H' → VR r v H' → Q v H'
theorem bfst_ex (bd : Bd) (rs : List (Int × Int)) : ∃ r, BFst bd rs r := by
  obtain ⟨t, ht⟩ := lfr_ex (PosP bd rs) 0 rs.length
  cases t with
  | none => exact ⟨none, none, ht, rfl⟩
  | some s =>
    obtain ⟨e, z, h1, h2, h3, h4⟩ := ht.2.2.1
    obtain ⟨u, hu⟩ := lfr_ex (Over bd rs s) s rs.length
    cases u with
    | none => exact absurd ⟨z, h3, h4⟩ (hu e h1 h2)
    | some e0 => exact ⟨_, some s, ht, e0, hu.1, hu.2.1, hu.2.2.1, hu.2.2.2, rfl⟩
def msL (vs : List (Int × Int)) : List Int := (List.range vs.length).map (mom vs)
theorem ms_len (vs : List (Int × Int)) : (msL vs).length = vs.length := by
  unfold msL
  rw [List.length_map, List.length_range]
theorem ms_at (vs : List (Int × Int)) {i : Nat} (h : i < vs.length) : (msL vs).getD i 0 = mom vs i := by
  unfold msL
  rw [List.getD_eq_getElem?_getD, List.getElem?_map, List.getElem?_range h]
  rfl
theorem totL_len (vs : List (Int × Int)) : (totsL vs).length = vs.length + 1 := by
  unfold totsL
  rw [List.length_map, List.length_range]
theorem exc_some {bd : Bd} {vs : List (Int × Int)} (ok : VOk vs) {s e e' : Nat} {z : Int} (h : excB bd vs s e = some z) (h1 : e' ≤ e) (h2 : e < vs.length) : ∃ y, excB bd vs s e' = some y := by
  cases bd with
  | jar S f => exact ⟨_, exc_jar S f vs s e'⟩
  | win M p =>
    have m := ok.mono e' e h1 h2
    rw [exc_win] at h ⊢
    by_cases q : mom vs e - mom vs s < p
    · rw [if_pos (by omega)]
      exact ⟨_, rfl⟩
    · rw [if_neg q] at h
      cases h
theorem ev_go {te : TE} {σ : L2.St} {H : Hp} {W : V → Hp → Prop} {i : Nat} {u : TS} {D : Ends} (h : EvW te σ H W) (k : ∀ v H1, Ex H H1 → W v H1 → u D (σ.set i (some v)) H1) : tSeq (tAsg te (gName i)) u D σ H := h H (Ex.refl H) _ k
theorem q_ndef {T : List NdefX.NTab} {i : Nat} {mk : Addr → NdefX.NF} {u : TS} {D : Ends} {σ : L2.St} {H : Hp} (hT : NdefX.TabsN T H) (k : ∀ (f c' : Addr) (H1 : Hp), LamX.ExtN H H1 → NdefX.TabsN T H1 → H f = none → H1 f = some (NdefX.FnO f (mk c')) → H1 c' = some (LamX.CodeO c' (mk c').qual) → u D (σ.set i (some (.ref f))) H1) :
    tSeq (NdefX.tNdef T i mk) u D σ H := ⟨hT, k⟩
theorem rexc {C : Addr} {RR : List V → Hp → V → Prop} {bd : Bd} {rs : List (Int × Int)} {b dx mo to : Addr} {fs : List (Str × V)} {H : Hp} {s e : Nat} (hb : H b = some (.ins C dx fs)) (hl : fs.lookup ("room" : Str) = none) (hR : ∀ a z H1, H1 b = some (.ins C dx fs) → RR [.ref b, .int a, .int z] H1 (opV (roomB bd a z)))
    (hm : H mo = some (.lst ((msL rs).map V.int))) (ht : H to = some (.lst ((totsL rs).map V.int))) (h1 : s ≤ e) (h2 : e < rs.length) : RExc C RR [some (.ref b), some (.ref mo), some (.ref to)] [.int (s : Int), .int (e : Int)] H (opV (excB bd rs s e)) :=
  ⟨b, dx, mo, to, fs, msL rs, totsL rs, s, e, roomB bd (mom rs s) (mom rs e), rfl, rfl, hb, hl, hm, ht, by rw [ms_len]; omega, by rw [ms_len]; omega, by rw [totL_len]; omega, by rw [totL_len]; omega, fun H1 e1 => by
    rw [ms_at rs (show s < rs.length by omega), ms_at rs h2]
    exact hR _ _ H1 (e1 _ _ hb), by
    unfold excB
    rw [totL_at rs (show e + 1 ≤ rs.length by omega), totL_at rs (show s ≤ rs.length by omega)]⟩
section
variable {P : Program} {w : World} {K : PySem.W.Frag} {mg : Str → Option Value} {base : Heap} {C cJ cW : Addr} {RR : List V → Hp → V → Prop}
theorem brk_body {P0 c ff : Addr} {A : Around} {outer : List Env} {s : Shared} {H : Hp} {Q : VK} {E : XK} (T : Blt mg) (t_Jar_room : C8.Met P w K mg base 1 C "room" (spF RR) []) (c_totals_ahead : C8.Cal P w K mg base 1 "_totals_ahead" (spW RTot) [])
    (c_first_start : CalC P w K mg base 3 "_first_start" frE (fun cl ws => spF (RFS (RExc C RR) cl ws))) (TB : LamX.TabB base mg c P0) (hr : Room 3 (A.deeper (envOfC "broken" (C8.fnScope s_broken) s.heap.objs.size ff (.ref c))))
    {b l dx : Addr} {fs : List (Str × V)} {bd : Bd} {rs : List (Int × Int)} {r : Option (Int × Int)} (hb : H b = some (.ins C dx fs)) (hl : fs.lookup ("room" : Str) = none) (hR : ∀ a z H1, H1 b = some (.ins C dx fs) → RR [.ref b, .int a, .int z] H1 (opV (roomB bd a z)))
    (hP : PairsT H l rs) (ok : VOk rs) (bok : bd.ok) (hn : rs.length ≤ 300) (hT : NdefX.TabsN [(P0, fun _ _ => qE)] H) (hr0 : BFst bd rs r) (q : ∀ v H', LamX.ExtN H H' → NdefX.TabsN [(P0, fun _ _ => qE)] H' → VR r v H' → Q v H') :
    ∃ t, PSs (cxOf C8.CX0 P w K mg base ["bound", "visits", "excess", "first", "last", "moments", "totals", "moment", "_"] "broken" (C8.fnScope s_broken) ff (.ref c) A outer s H E).nox (C8.fnBody s_broken) t ∧ t { nx := fun _ H' => Q .non H', rt := Q } (start ["bound", "visits", "excess", "first", "last", "moments", "totals", "moment", "_"] [.ref b, .ref l]) H := by
  have fnX : ∀ cl f c', NdefX.NOk P w K mg base C8.CX0 2 f (mkE cl c') ["start", "end"] frE (fun ws => spF (RExc C RR ws)) := fun cl => nok_excess t_Jar_room cl
  have ndB : NdefX.ndefB (C8.fnScope s_broken) (C8.fnScope s_broken_excess) frE = true := by decide +kernel
  refine ⟨_, (pss_cons (ps_set (i := 5) sc_broken.nd rfl (Or.inr rfl) (pe_lc (own := [("moment", 7), ("_", 8)]) (g := gTup K 2 (gCons (gName 7) (gCons (gName 8) gNil))) rfl sc_broken.nd (pi_list (pv 1)) (blkOk_by (own := [("moment", 7), ("_", 8)]) (N := ["bound", "visits", "excess", "first", "last", "moments", "totals", "moment", "_"]) (sc := C8.fnScope s_broken) (by decide +kernel)) (fun _ _ _ _ _ => pg_tup rfl (pgs_cons (pg_name (i := 7) sc_broken.nd rfl (Or.inl rfl)) (pgs_cons (pg_name (i := 8) sc_broken.nd rfl (Or.inl rfl)) pgs_nil))) (fun _ _ _ _ _ => pts_nil) (fun _ _ _ _ _ => (pv 7))))
  (pss_cons (ps_set (i := 6) sc_broken.nd rfl (Or.inr rfl) (C8.pe_c c_totals_ahead hr (by decide) rfl (pa_cons (pv 1) pa_nil)))
  (pss_cons (NdefX.ps_ndefS (T := [(P0, fun _ _ => qE)]) (nm := fun _ _ => qE) (P := P0) (i := 2) (st := s_broken_excess) rfl TB rfl (List.mem_singleton.mpr rfl) rfl (fun p hp _ => by rw [List.mem_singleton.mp hp]) (NdefX.ndef_free ndB) rfl rfl rfl sc_broken.nd rfl (Or.inl rfl) (Or.inl rfl))
  (pss_cons (ps_set (i := 3) sc_broken.nd rfl (Or.inl rfl) (pe_cC (wsOf := (fun σ => [0, 5, 6].map (NdefX.slotAt σ))) c_first_start (fun _ _ _ _ I => NdefX.cells_of I (NdefX.Caps.made I.ok (NdefX.ndef_free ndB) (NdefX.ndef_fr ndB) rfl)) (fun _ _ _ _ I => far_made I rfl rfl (fun _ => rfl) fun y c e => (NdefX.Caps.made (fr := frE) (js := [0, 5, 6]) I.ok (NdefX.ndef_free ndB) (NdefX.ndef_fr ndB) rfl).sub y c e) hr (by decide) rfl (pa_cons (pe_callB call_len_seq (by rfl) T.b_len boot_len (pa_cons (pv 5) pa_nil)) (pa_cons (pv 2) pa_nil))))
  (pss_cons (ps_if (pt_cmp (pc_isN (pv 3)))
    (pss_one (ps_ret pe_non))
    pss_nil)
  (pss_cons (ps_set (i := 4) sc_broken.nd rfl (Or.inl rfl) (pv 3))
  (pss_cons (ps_while PassesOwn.never (pt_cmpR op_le (pe_callG (i := 2) (wsOf := (fun σ => [0, 5, 6].map (NdefX.slotAt σ))) (fnX _) (fun _ => rfl) (fun _ _ _ _ I => NdefX.cells_of I (NdefX.Caps.made I.ok (NdefX.ndef_free ndB) (NdefX.ndef_fr ndB) rfl)) hr (by decide) rfl (Or.inl rfl) (pa_cons (pv 3) (pa_cons (pv 4) pa_nil))) pe_int (nomark _))
    (pss_one (ps_aug (i := 4) sc_broken.nd rfl (Or.inl rfl) pe_int ip_add)))
  (pss_one (ps_ret (pe_tup (pa_cons (pe_ix ix_list (pv 5) (pv 3) (fun _ _ => rfl)) (pa_cons (pe_ix ix_list (pv 5) (pv 4) (fun _ _ => rfl)) pa_nil)))))))))))), ?_⟩
  refine q_asgL (xs := (msL rs).map V.int) (by
    have z := el_lcP (K := K) (σ := start ["bound", "visits", "excess", "first", "last", "moments", "totals", "moment", "_"] [V.ref b, V.ref l]) (H := H) (tl := tVar 1) (te := tVar 7) (tt := tYes) (i := 7) (j := 8) (vs := [7, 8]) (fun i => V.int (mom rs i)) (ev_var rfl) hP (by omega) (fun x y => rfl) (fun σ' H1 H2 e Q q => q H2 (Ex.refl H2)) (fun k q0 H1 e1 hq => ev_is (ev_var rfl) (by
      have hk := (List.getElem?_eq_some_iff.mp hq).1
      rw [getD_some hk] at hq
      injection hq with hq
      rw [← hq]
      rfl))
    rw [given_all] at z
    have ez : (msL rs).map V.int = (List.range rs.length).map (fun i => V.int (mom rs i)) := by
      unfold msL
      rw [List.map_map]
      rfl
    rw [ez]
    exact z) fun mo H1 nmo e1 hmo => ?_
  refine ev_go (W := fun v H2 => ∃ p, v = .ref p ∧ H2 p = some (.lst ((totsL rs).map V.int))) (evw_callW (ea_cons (ev_var rfl) ea_nil) fun H2 e2 => ⟨l, rs, rfl, hP.mono (e1.trans e2), hn, rfl⟩) fun v H2 e2 ⟨to, ev, hto⟩ => ?_
  subst ev
  refine q_ndef (hT.ext (e1.trans e2)) fun fe c' H3 e3 hT3 nf hfe hce => ?_
  have e03 : LamX.ExtN H H3 := (Ex.extN (e1.trans e2)).trans e3
  have hb3 : H3 b = some (.ins C dx fs) := e03 _ _ hb fun _ z => by cases z
  have hmo3 := exN_lst e3 (e2 _ _ hmo)
  have hto3 := exN_lst e3 hto
  obtain ⟨t, ht, hm⟩ := hr0
  refine Nx.go (nx_asg (v := natV t) (ev_callC (ea_cons (ev_is (ev_lenL (K := K) (ev_var rfl) (sq_of hmo3)) (by rw [List.length_map, ms_len])) (ea_cons (ev_var rfl) ea_nil)) fun H4 e4 => ⟨fe, c', bd, rs, t, rfl, e4 _ _ hfe, e4 _ _ hce, ok, bok, hn, fun s e hs he H5 e5 => rexc ((e4.trans e5) _ _ hb3) hl hR ((e4.trans e5) _ _ hmo3) ((e4.trans e5) _ _ hto3) hs he, ht, rfl⟩)) fun H4 e4 => ?_
  cases t with
  | none =>
    subst hm
    exact q_when (b := true) (et_test (ev_isN (ev_var (v := .non) rfl))) (fun _ H5 e5 => s_ret ev_c fun H6 e6 => q _ _ (e03.trans (Ex.extN ((e4.trans e5).trans e6))) (hT3.ext ((e4.trans e5).trans e6)) rfl) fun z => by cases z
  | some s0 =>
    obtain ⟨e0, se, en, ⟨z0, hz0, pz0⟩, least, hr⟩ := hm
    subst hr
    refine q_when (b := false) (et_test (ev_isN (ev_var (v := .int (s0 : Int)) rfl))) (fun z => by cases z) fun _ H5 e5 => ?_
    refine Nx.go (nx_asg (v := .int (s0 : Int)) (ev_var rfl)) fun H6 e6 => ?_
    have e36 := (e4.trans e5).trans e6
    have callAt : ∀ {σ : L2.St} {ta tb : TE} {s1 e1 : Nat}, σ[2]? = some (some (.ref fe)) → [0, 5, 6].map (NdefX.slotAt σ) = [some (.ref b), some (.ref mo), some (.ref to)] → Ev ta σ H6 (.int (s1 : Int)) → Ev tb σ H6 (.int (e1 : Int)) → s1 ≤ e1 → e1 < rs.length →
        Ev (tCallG (mkE (cloFrom (envOfC "broken" (C8.fnScope s_broken) s.heap.objs.size ff (.ref c)).cells (C8.fnScope s_broken_excess).names [])) 2 (fun σ => [0, 5, 6].map (NdefX.slotAt σ)) (fun ws => spF (RExc C RR ws)) (tCons ta (tCons tb tNil))) σ H6 (opV (excB bd rs s1 e1)) := fun h1 hw ha hb' hs he =>
      ev_callG h1 (e36 _ _ hfe) (e36 _ _ hce) (ea_cons ha (ea_cons hb' ea_nil)) fun H7 e7 => by
        rw [hw]
        exact rexc ((e36.trans e7) _ _ hb3) hl hR ((e36.trans e7) _ _ hmo3) ((e36.trans e7) _ _ hto3) hs he
    have hno : ∀ i, i < e0 - s0 → ∃ z, excB bd rs s0 (s0 + i) = some z ∧ z ≤ 0 := fun i hi => by
      obtain ⟨z, hz⟩ := exc_some ok hz0 (show s0 + i ≤ e0 by omega) en
      refine ⟨z, hz, Int.not_lt.mp fun pz => least (s0 + i) (by omega) (by omega) ⟨z, hz, pz⟩⟩
    have turns : Nx (tWhile (tTest (tOp (rI0 fun i j => V.bl (decide (i ≤ j))) (tCallG (mkE (cloFrom (envOfC "broken" (C8.fnScope s_broken) s.heap.objs.size ff (.ref c)).cells (C8.fnScope s_broken_excess).names [])) 2 (fun σ => [0, 5, 6].map (NdefX.slotAt σ)) (fun ws => spF (RExc C RR ws)) (tCons (tVar 3) (tCons (tVar 4) tNil))) (tC (.int 0)))) (tAug 4 (tC (.int 1)) (ipI fun i j => i + j)))
        [some (.ref b), some (.ref l), some (.ref fe), some (.int (s0 : Int)), some (.int ((s0 + 0 : Nat) : Int)), some (.ref mo), some (.ref to), none, none] H6 [some (.ref b), some (.ref l), some (.ref fe), some (.int (s0 : Int)), some (.int ((s0 + (e0 - s0) : Nat) : Int)), some (.ref mo), some (.ref to), none, none] :=
      nx_while (e0 - s0) (fun i => [some (.ref b), some (.ref l), some (.ref fe), some (.int (s0 : Int)), some (.int ((s0 + i : Nat) : Int)), some (.ref mo), some (.ref to), none, none]) (fun i hi => by
        obtain ⟨z, hz, pz⟩ := hno i hi
        exact ⟨et_is (et_test (ev_op (ev_is (callAt (s1 := s0) (e1 := s0 + i) rfl rfl (ev_var rfl) (ev_var rfl) (by omega) (by omega)) (by rw [hz]; rfl)) ev_c rv_I0)) (decide_eq_true pz), nx_aug (a := ((s0 + i : Nat) : Int)) (d := 1) rfl ev_c⟩)
        (et_is (et_test (ev_op (ev_is (callAt (s1 := s0) (e1 := s0 + (e0 - s0)) rfl rfl (ev_var rfl) (ev_var rfl) (by omega) (by omega)) (by rw [show s0 + (e0 - s0) = e0 by omega, hz0]; rfl)) ev_c rv_I0)) (decide_eq_false (by omega)))
    rw [show s0 + (e0 - s0) = e0 by omega] at turns
    refine Nx.go turns fun H7 e7 => ?_
    have hmo7 := (e36.trans e7) _ _ hmo3
    refine s_retU (xs := [.int (mom rs s0), .int (mom rs e0)]) (eu_tup (ea_cons (ev_is (ev_ixI (i := s0) (ev_var rfl) (ev_var rfl) hmo7 (by rw [ms_len]; omega)) (by rw [ms_at rs (show s0 < rs.length by omega)])) (ea_cons (ev_is (ev_ixI (i := e0) (ev_var rfl) (ev_var rfl) hmo7 (by rw [ms_len]; omega)) (by rw [ms_at rs en])) ea_nil)) (by simp only [List.length_cons, List.length_nil]; omega)) fun p H8 _ e8 hp => ?_
    exact q _ _ (e03.trans (Ex.extN ((e36.trans e7).trans e8))) (hT3.ext ((e36.trans e7).trans e8)) ⟨p, rfl, hp⟩
/-- what the top says of broken -/
structure BrkAt (K : PySem.W.Frag) (mg : Str → Option Value) (c : Addr) : Prop where
  ex : ∃ (f : Addr) (oc : Value) (od : Option Addr) (kV doc pm : Value) (an : Option Addr) (ct : Value) (osl : Array (Option Value)), K.lookup f = some ⟨oc, od, .func (PySem.W.fnOf "broken" "broken" (C8.fnArgs s_broken) (C8.fnBody s_broken) (C8.fnScope s_broken) .none kV doc pm an (.ref c) ct), osl⟩ ∧ PySem.W.codeIn K (.ref c) "broken" = true ∧
    mg "broken" = some (.ref f) ∧ PySem.W.keepIn K (.ref f) = true ∧ Binds K (PySem.W.fnOf "broken" "broken" (C8.fnArgs s_broken) (C8.fnBody s_broken) (C8.fnScope s_broken) .none kV doc pm an (.ref c) ct) ["bound", "visits"] []
theorem cal_broken {P0 c : Addr} (T : Blt mg) (rJ : C8.Met P w K mg base 1 cJ "room" (spF (RRoomJ cJ)) []) (rW : C8.Met P w K mg base 1 cW "room" (spF (RRoomW cW)) []) (c_totals_ahead : C8.Cal P w K mg base 1 "_totals_ahead" (spW RTot) [])
    (fsJ : CalC P w K mg base 3 "_first_start" frE (fun cl ws => spF (RFS (RExc cJ (RRoomJ cJ)) cl ws))) (fsW : CalC P w K mg base 3 "_first_start" frE (fun cl ws => spF (RFS (RExc cW (RRoomW cW)) cl ws))) (TB : LamX.TabB base mg c P0) (B : BrkAt K mg c) : C8.Cal P w K mg base 4 "broken" (spBrk [(P0, fun _ _ => qE)] cJ cW) [] := by
  obtain ⟨f, oc, od, kV, doc, pm, an, ct, osl, lk, hcd, gm, kp, bi⟩ := B.ex
  refine ⟨f, _, ["bound", "visits"], [], fn_of lk hcd sc_broken (fun vs H Q E h => ?_) (fun A outer s H vs Q E hr h => ?_), gm, kp, bi, .nil⟩
  · obtain ⟨b, l, bd, rs, r, rfl, _⟩ := h
    rfl
  · obtain ⟨b, l, bd, rs, r, rfl, hb, hP, ok, bok, hn, hT, hr0, q⟩ := h
    cases bd with
    | jar S F =>
      obtain ⟨dx, hb⟩ := hb
      obtain ⟨t, h1, h2⟩ := brk_body (E := E) T rJ c_totals_ahead fsJ TB hr hb rfl (fun a z H1 h1 => ⟨b, dx, S, F, a, z, rfl, h1, bok.2.2.1, bok.2.2.2, rfl⟩) hP ok bok hn hT hr0 q
      exact ⟨t, h1.nox, h2⟩
    | win M p =>
      obtain ⟨dx, hb⟩ := hb
      obtain ⟨t, h1, h2⟩ := brk_body (E := E) T rW c_totals_ahead fsW TB hr hb rfl (fun a z H1 h1 => ⟨b, dx, M, p, a, z, rfl, h1, rfl⟩) hP ok bok hn hT hr0 q
      exact ⟨t, h1.nox, h2⟩
end
/-! the law's own search: the same stretch -/
def LastB (rs : List (Int × Int)) (e : Nat) : Prop := e + 1 = rs.length ∨ mom rs e < mom rs (e + 1)
def LOver (bd : Bd) (rs : List (Int × Int)) (s e : Nat) : Prop := LastB rs e ∧ Over bd rs s e
def LPos (bd : Bd) (rs : List (Int × Int)) (s : Nat) : Prop := ∃ e, s ≤ e ∧ e < rs.length ∧ LOver bd rs s e
def LFirst (bd : Bd) (rs : List (Int × Int)) (r : Option (Int × Int)) : Prop := ∃ t : Option Nat, LFr (LPos bd rs) 0 rs.length t ∧ match t with
  | none => r = none
  | some s => ∃ e, s ≤ e ∧ e < rs.length ∧ LOver bd rs s e ∧ (∀ e', s ≤ e' → e' < e → ¬ LOver bd rs s e') ∧ r = some (mom rs s, mom rs e)
theorem grp {rs : List (Int × Int)} (ok : VOk rs) : ∀ (d e : Nat), e + 1 + d = rs.length → ∃ g, e ≤ g ∧ g < rs.length ∧ mom rs g = mom rs e ∧ LastB rs g
  | 0, e, h => ⟨e, Nat.le_refl _, by omega, rfl, .inl (by omega)⟩
  | d + 1, e, h => by
    have m := ok.mono e (e + 1) (by omega) (by omega)
    by_cases q : mom rs e < mom rs (e + 1)
    · exact ⟨e, Nat.le_refl _, by omega, rfl, .inr q⟩
    · obtain ⟨g, h1, h2, h3, h4⟩ := grp ok d (e + 1) (by omega)
      exact ⟨g, by omega, h2, by omega, h4⟩
theorem over_up {bd : Bd} {rs : List (Int × Int)} (ok : VOk rs) {s e g : Nat} (h : Over bd rs s e) (h1 : e ≤ g) (h2 : g < rs.length) (h3 : mom rs g = mom rs e) : Over bd rs s g := by
  obtain ⟨z, hz, pz⟩ := h
  have t := tot_le ok (i := e + 1) (j := g + 1) (by omega) (by omega)
  unfold excB at hz
  unfold Over excB
  rw [h3]
  cases e1 : roomB bd (mom rs s) (mom rs e) with
  | none =>
    rw [e1] at hz
    cases hz
  | some r =>
    rw [e1] at hz
    injection hz with hz
    dsimp only at hz
    exact ⟨tot rs (g + 1) - tot rs s - r, rfl, by omega⟩
theorem pos_iff {bd : Bd} {rs : List (Int × Int)} (ok : VOk rs) (s : Nat) : PosP bd rs s ↔ LPos bd rs s := by
  constructor
  · rintro ⟨e, z, h1, h2, h3, h4⟩
    obtain ⟨g, g1, g2, g3, g4⟩ := grp ok (rs.length - e - 1) e (by omega)
    exact ⟨g, by omega, g2, g4, over_up ok ⟨z, h3, h4⟩ g1 g2 g3⟩
  · rintro ⟨e, h1, h2, _, z, h3, h4⟩
    exact ⟨e, z, h1, h2, h3, h4⟩
theorem lfr_imp {p p' : Nat → Prop} (h : ∀ s, p s ↔ p' s) {lo n : Nat} {t : Option Nat} (k : LFr p lo n t) : LFr p' lo n t := by
  cases t with
  | none => exact fun s a b c => k s a b ((h s).mpr c)
  | some s => exact ⟨k.1, k.2.1, (h s).mp k.2.2.1, fun s' a b c => k.2.2.2 s' a b ((h s').mpr c)⟩
theorem first_one {bd : Bd} {rs : List (Int × Int)} (ok : VOk rs) {r r' : Option (Int × Int)} (h : BFst bd rs r) (k : LFirst bd rs r') : r = r' := by
  obtain ⟨t, h1, h2⟩ := h
  obtain ⟨t', k1, k2⟩ := k
  obtain rfl := lfr_one (lfr_imp (pos_iff ok) h1) k1
  cases t with
  | none => rw [h2, k2]
  | some s =>
    obtain ⟨e, a1, a2, a3, a4, rfl⟩ := h2
    obtain ⟨e', b1, b2, ⟨b3, b4⟩, b5, rfl⟩ := k2
    have c1 : e ≤ e' := Nat.le_of_not_lt fun z => a4 e' b1 z b4
    obtain ⟨g, g1, g2, g3, g4⟩ := grp ok (rs.length - e - 1) e (by omega)
    have c2 : e' ≤ g := Nat.le_of_not_lt fun z => b5 g (by omega) z ⟨g4, over_up ok a3 g1 g2 g3⟩
    have m1 := ok.mono e e' c1 b2
    have m2 := ok.mono e' g c2 g2
    rw [show mom rs e' = mom rs e by omega]
theorem RtW.imp {t : TS} {σ : L2.St} {H : Hp} {W W' : V → Hp → Prop} (h : RtW t σ H W) (k : ∀ v H1, W v H1 → W' v H1) : RtW t σ H W' := fun H1 e D q => h H1 e D fun v H2 e2 w => q v H2 e2 (k v H2 w)
/-! a block that goes on or hands back, as b says -/
def GoOr (u : TS) (σ : L2.St) (H : Hp) (R : L2.St → Prop) (W : V → Hp → Prop) (b : Bool) : Prop := (b = false → NxP u σ H R) ∧ (b = true → RtW u σ H W)
theorem nxp_seq {t u : TS} {σ σ' : L2.St} {H : Hp} {R : L2.St → Prop} (h : Nx t σ H σ') (k : NxP u σ' H R) : NxP (tSeq t u) σ H R := nxp_seqP (nxp_of (P := fun z => z = σ') h rfl) fun z e => by
  subst e
  exact k
theorem go_seq {t u : TS} {σ σ' : L2.St} {H : Hp} {R : L2.St → Prop} {W : V → Hp → Prop} {b : Bool} (h : Nx t σ H σ') (k : GoOr u σ' H R W b) : GoOr (tSeq t u) σ H R W b := ⟨fun z => nxp_seq h (k.1 z), fun z => rtw_seq h (k.2 z)⟩
theorem go_if {c : TT} {t u : TS} {σ : L2.St} {H : Hp} {R : L2.St → Prop} {W : V → Hp → Prop} {b : Bool} (h : EvT c σ H b) (h1 : b = true → RtW t σ H W) (h2 : b = false → NxP u σ H R) : GoOr (tIfS c t u) σ H R W b :=
  ⟨fun z => nxp_if h (fun w => by rw [z] at w; cases w) fun _ => h2 z, fun z => rtw_if h (fun _ => h1 z) fun w => by rw [z] at w; cases w⟩
def RRoomL (vs : List V) (H : Hp) (v : V) : Prop := ∃ p bd a z, vs = [.ref p, .int a, .int z] ∧ H p = some (.tup (Bd.tup bd)) ∧ bd.ok ∧ v = opV (roomB bd a z)
def RLF (vs : List V) (H : Hp) (W : V → Hp → Prop) : Prop := ∃ p l bd rs, vs = [.ref p, .ref l] ∧ H p = some (.tup (Bd.tup bd)) ∧ PairsT H l rs ∧ bd.ok ∧ rs.length ≤ 300 ∧ W = fun v H2 => ∃ r, LFirst bd rs r ∧ VR r v H2
section
variable {P : Program} {w : World} {K : PySem.W.Frag} {mg : Str → Option Value} {base : Heap}
theorem cal_Lroom {f : Addr} {fd : FuncData} (F : C8.Def K mg "_law_room" s_Lroom f fd) (b : Binds K fd ["_law_bound_here", "_law_first_here", "_law_last"] []) : C8.Cal P w K mg base 1 "_law_room" (spF RRoomL) [] := by
  refine calF F b sc_Lroom (fun vs H v h => ?_) (fun cdv A outer s H vs v E hr h => ?_)
  · obtain ⟨p, bd, a, z, rfl, _⟩ := h
    rfl
  · obtain ⟨p, bd, a, z, rfl, hp, ok, rfl⟩ := h
    refine ⟨_, (pss_cons (ps_if (pt_cmpR op_eq (pe_ix ix_tup (pv 0) pe_int (fun _ _ => rfl)) pe_str (nomark _))
    (pss_one (ps_ret (pe_op op_add (pe_ix ix_tup (pv 0) pe_int (fun _ _ => rfl)) (pe_op op_mul (pe_ix ix_tup (pv 0) pe_int (fun _ _ => rfl)) (pe_op op_sub (pv 2) (pv 1))))))
    pss_nil)
  (pss_cons (ps_if (pt_cmpR op_lt (pe_op op_sub (pv 2) (pv 1)) (pe_ix ix_tup (pv 0) pe_int (fun _ _ => rfl)) (nomark _))
    (pss_one (ps_ret (pe_ix ix_tup (pv 0) pe_int (fun _ _ => rfl))))
    pss_nil)
  (pss_one (ps_ret pe_non)))), ?_⟩
    have hT : SqT K H p bd.tup := st_of hp
    cases bd with
    | jar S F =>
      have e1 : atI (Bd.tup (.jar S F)) 1 = some (.int S) := rfl
      have e2 : atI (Bd.tup (.jar S F)) 2 = some (.int F) := rfl
      have b1 : 0 ≤ F := ok.2.2.1
      have b2 : F ≤ 1000000000 := ok.2.2.2
      refine rt_ifseq (b := true) (et_is (et_test (ev_op (ev_ixT (v := .str "jar") (ev_var rfl) ev_c hT rfl) ev_c (rv_eq rfl))) dj) (fun _ => ?_) fun z => by cases z
      exact rt_ret (ev_op (ev_ixT (ev_var rfl) ev_c hT e1) (ev_op (ev_ixT (ev_var rfl) ev_c hT e2) (ev_op (ev_var rfl) (ev_var rfl) rv_I0) (rv_I (.inl ⟨by omega, by omega⟩))) rv_I0)
    | win M p =>
      have e1 : atI (Bd.tup (.win M p)) 1 = some (.int M) := rfl
      have e2 : atI (Bd.tup (.win M p)) 2 = some (.int p) := rfl
      refine rt_ifseq (b := false) (et_is (et_test (ev_op (ev_ixT (v := .str "window") (ev_var rfl) ev_c hT rfl) ev_c (rv_eq rfl))) dw) (fun z => by cases z) fun _ => ?_
      refine rt_ifseq (b := decide (z - a < p)) (et_test (ev_op (ev_op (ev_var rfl) (ev_var rfl) rv_I0) (ev_ixT (ev_var rfl) ev_c hT e2) rv_I0)) (fun g => ?_) fun g => ?_
      · unfold roomB
        simp only [if_pos (of_decide_eq_true g)]
        exact rt_ret (ev_ixT (ev_var rfl) ev_c hT e1)
      · unfold roomB
        simp only [if_neg (of_decide_eq_false g)]
        exact rt_ret ev_c
theorem rRoomL {H : Hp} {p : Addr} {bd : Bd} {a z : Int} (hp : H p = some (.tup bd.tup)) (ok : bd.ok) : ∀ H1, Ex H H1 → RRoomL [.ref p, .int a, .int z] H1 (opV (roomB bd a z)) := fun H1 e => ⟨p, bd, a, z, rfl, e _ _ hp, ok, rfl⟩
def lfS (p l : Addr) (o2 o3 o4 o5 o6 : Option V) : L2.St := [some (.ref p), some (.ref l), o2, o3, o4, o5, o6]
theorem cal_Lfirst {f : Addr} {fd : FuncData} (T : Blt mg) (c_Lroom : C8.Cal P w K mg base 1 "_law_room" (spF RRoomL) []) (F : C8.Def K mg "_law_first" s_Lfirst f fd) (b : Binds K fd ["_law_bound_here", "_law_visits"] []) : C8.Cal P w K mg base 2 "_law_first" (spW RLF) [] := by
  refine calW F b sc_Lfirst (fun vs H v h => ?_) (fun cdv A outer s H vs W E hr h => ?_)
  · obtain ⟨p, l, bd, rs, rfl, _⟩ := h
    rfl
  · obtain ⟨p, l, bd, rs, rfl, hp, hP, bok, hn, rfl⟩ := h
    refine ⟨_, (pss_cons (ps_for PassesOwn.never rfl (pi_range1 rfl T.b_range (pa_cons (pe_callB call_len_seq (by rfl) T.b_len boot_len (pa_cons (pv 1) pa_nil)) pa_nil)) (pg_name (i := 2) sc_Lfirst.nd rfl (Or.inl rfl))
    (pss_cons (ps_set (i := 3) sc_Lfirst.nd rfl (Or.inl rfl) pe_int)
    (pss_one (ps_for PassesOwn.never rfl (pi_range2 rfl T.b_range (pa_cons (pv 2) (pa_cons (pe_callB call_len_seq (by rfl) T.b_len boot_len (pa_cons (pv 1) pa_nil)) pa_nil))) (pg_name (i := 4) sc_Lfirst.nd rfl (Or.inl rfl))
      (pss_cons (ps_set (i := 3) sc_Lfirst.nd rfl (Or.inl rfl) (pe_op op_add (pv 3) (pe_ix ix_tup (pe_ix ix_list (pv 1) (pv 4) (fun _ _ => rfl)) pe_int (fun _ _ => rfl))))
      (pss_cons (ps_set (i := 5) sc_Lfirst.nd rfl (Or.inl rfl) (pe_or (pe_cmpR op_eq (pe_op op_add (pv 4) pe_int) (pe_callB call_len_seq (by rfl) T.b_len boot_len (pa_cons (pv 1) pa_nil)) (nomark _)) (pe_one (pe_cmpR op_gt (pe_ix ix_tup (pe_ix ix_list (pv 1) (pe_op op_add (pv 4) pe_int) (fun _ _ => rfl)) pe_int (fun _ _ => rfl)) (pe_ix ix_tup (pe_ix ix_list (pv 1) (pv 4) (fun _ _ => rfl)) pe_int (fun _ _ => rfl)) (nomark _)))))
      (pss_cons (ps_set (i := 6) sc_Lfirst.nd rfl (Or.inl rfl) (C8.pe_c c_Lroom hr (by decide) rfl (pa_cons (pv 0) (pa_cons (pe_ix ix_tup (pe_ix ix_list (pv 1) (pv 2) (fun _ _ => rfl)) pe_int (fun _ _ => rfl)) (pa_cons (pe_ix ix_tup (pe_ix ix_list (pv 1) (pv 4) (fun _ _ => rfl)) pe_int (fun _ _ => rfl)) pa_nil)))))
      (pss_one (ps_if (PW.pt (pw_and (pt_val (pv 5)) (pw_and (pt_cmp (pc_notN (pv 6))) (pw_and1 (pt_cmpR op_gt (pv 3) (pv 6) (nomark _))))))
        (pss_one (ps_ret (pe_tup (pa_cons (pe_ix ix_tup (pe_ix ix_list (pv 1) (pv 2) (fun _ _ => rfl)) pe_int (fun _ _ => rfl)) (pa_cons (pe_ix ix_tup (pe_ix ix_list (pv 1) (pv 4) (fun _ _ => rfl)) pe_int (fun _ _ => rfl)) pa_nil)))))
        pss_nil)))))))))
  (pss_one (ps_ret pe_non))), ?_⟩
    refine rtwp_for (fun i σ => (∃ o2 o3 o4 o5 o6, σ = lfS p l o2 o3 o4 o5 o6) ∧ ∀ s, s < i → ¬ LPos bd rs s) ⟨⟨_, _, _, _, _, rfl⟩, fun s a => by omega⟩ (ei_r1 (n := (rs.length : Int)) (ea_cons (ev_lenP (K := K) (ev_var rfl) hP) ea_nil) (by omega) (by omega)) (fun i σ hi ⟨⟨o2, o3, o4, o5, o6, hσ⟩, hno⟩ => ?_) fun σ ⟨⟨o2, o3, o4, o5, o6, hσ⟩, hno⟩ => ?_
    · subst hσ
      rw [Int.zero_add]
      rw [Int.toNat_natCast] at hi
      -- a turn of the inner loop
      have hmany : ((rs.length : Int) - (i : Int)).toNat = rs.length - i := by omega
      have turn : ∀ (j : Nat) (o4 o5 o6 : Option V), i + j < rs.length → ∃ b : Bool, (b = true ↔ LOver bd rs i (i + j)) ∧ GoOr
          (tSeq (tAsg (tOp (rI0 fun i j => V.int (i + j)) (tVar 3) (tOp (rIxT K) (tOp (rIxL K) (tVar 1) (tVar 4)) (tC (.int 1)))) (gName 3)) (tSeq (tAsg (tOrV (tOp rEq (tOp (rI0 fun i j => V.int (i + j)) (tVar 4) (tC (.int 1))) (tCB (fun xs H Q => ∃ p ys, xs = [.ref p] ∧ (SqL K H p ys ∨ SqT K H p ys) ∧ Q (.int ys.length) H) (tCons (tVar 1) tNil))) (tOp (rI0 fun i j => V.bl (decide (i > j))) (tOp (rIxT K) (tOp (rIxL K) (tVar 1) (tOp (rI0 fun i j => V.int (i + j)) (tVar 4) (tC (.int 1)))) (tC (.int 0))) (tOp (rIxT K) (tOp (rIxL K) (tVar 1) (tVar 4)) (tC (.int 0))))) (gName 5))
            (tSeq (tAsg (tCall (spF RRoomL) [] C8.E0 (tCons (tVar 0) (tCons (tOp (rIxT K) (tOp (rIxL K) (tVar 1) (tVar 2)) (tC (.int 0))) (tCons (tOp (rIxT K) (tOp (rIxL K) (tVar 1) (tVar 4)) (tC (.int 0))) tNil)))) (gName 6))
              (tIfS (tAnd (tB (tVar 5)) (tAnd (tTest (tNotN (tVar 6))) (tTest (tOp (rI0 fun i j => V.bl (decide (i > j))) (tVar 3) (tVar 6))))) (tRet (tTup (tCons (tOp (rIxT K) (tOp (rIxL K) (tVar 1) (tVar 2)) (tC (.int 0))) (tCons (tOp (rIxT K) (tOp (rIxL K) (tVar 1) (tVar 4)) (tC (.int 0))) tNil)))) tNext))))
          (lfS p l (some (.int (i : Int))) (some (.int (tot rs (i + j) - tot rs i))) (some (.int ((i + j : Nat) : Int))) o5 o6) H
          (fun σ => ∃ o4 o5 o6, σ = lfS p l (some (.int (i : Int))) (some (.int (tot rs (i + (j + 1)) - tot rs i))) o4 o5 o6)
          (fun v H2 => ∃ q, v = .ref q ∧ H2 q = some (.tup [.int (mom rs i), .int (mom rs (i + j))])) b := by
        intro j o4 o5 o6 hj
        have gi : rs[(i : Int).toNat]? = some (rs.getD i (0, 0)) := by
          rw [Int.toNat_natCast]
          exact getD_some hi
        have gj : rs[((i + j : Nat) : Int).toNat]? = some (rs.getD (i + j) (0, 0)) := by
          rw [Int.toNat_natCast]
          exact getD_some hj
        let lb : Bool := decide (V.int (((i + j : Nat) : Int) + 1) = V.int (rs.length : Int)) || decide (mom rs (i + j + 1) > mom rs (i + j))
        have hlb : lb = true ↔ LastB rs (i + j) := by
          show (_ || _) = true ↔ _
          rw [Bool.or_eq_true, decide_eq_true_eq, decide_eq_true_eq]
          unfold LastB
          constructor
          · rintro (z | z)
            · injection z with z
              exact .inl (by omega)
            · exact .inr z
          · rintro (z | z)
            · exact .inl (congrArg V.int (by omega))
            · exact .inr z
        have eu : tot rs (i + (j + 1)) - tot rs i = (tot rs (i + j) - tot rs i) + cst rs (i + j) := by
          show tot rs (i + j) + cst rs (i + j) - tot rs i = _
          omega
        have st1 : ∀ {σ : L2.St}, σ = lfS p l (some (.int (i : Int))) (some (.int (tot rs (i + j) - tot rs i))) (some (.int ((i + j : Nat) : Int))) o5 o6 → Nx (tAsg (tOp (rI0 fun i j => V.int (i + j)) (tVar 3) (tOp (rIxT K) (tOp (rIxL K) (tVar 1) (tVar 4)) (tC (.int 1)))) (gName 3)) σ H (lfS p l (some (.int (i : Int))) (some (.int (tot rs (i + (j + 1)) - tot rs i))) (some (.int ((i + j : Nat) : Int))) o5 o6) := fun hσ => by
          subst hσ
          rw [eu]
          exact nx_asg (ev_op (ev_var rfl) (ev_pair1 (ev_var rfl) (ev_var rfl) hP (by omega) gj) rv_I0)
        cases e1 : roomB bd (mom rs i) (mom rs (i + j)) with
        | none =>
          refine ⟨lb && (false && true), ⟨fun z => by simp at z, fun ⟨_, z, hz, _⟩ => by
            unfold excB at hz
            rw [e1] at hz
            cases hz⟩, ?_⟩
          refine go_seq (st1 rfl) (go_seq (nx_asg (v := .bl lb) (ev_orV (ev_op (ev_op (ev_var rfl) ev_c rv_I0) (ev_lenP (ev_var rfl) hP) (rv_eq rfl)) fun hz => ?_)) (go_seq (nx_asg (v := .non) (ev_is (ev_callF (ea_cons (ev_var rfl) (ea_cons (ev_pair0 (ev_var rfl) (ev_var rfl) hP (by omega) gi) (ea_cons (ev_pair0 (ev_var rfl) (ev_var rfl) hP (by omega) gj) ea_nil))) (rRoomL hp bok)) (congrArg opV e1))) (go_if (et_and (et_B (ev_var rfl)) fun _ => et_and (a := false) (et_is (et_test (ev_notN (ev_var (v := .non) rfl))) rfl) fun z => by cases z) (fun z => by simp at z) fun _ => nxp_of nx_next ⟨_, _, _, rfl⟩)))
          have hj1 : i + j + 1 < rs.length := by
            have := of_decide_eq_false hz
            exact Nat.lt_of_le_of_ne (by omega) fun z => this (congrArg V.int (by omega))
          exact ev_op (ev_pair0 (ev_var rfl) (ev_op (ev_var rfl) ev_c rv_I0) hP (by omega) (by rw [show (((i + j : Nat) : Int) + 1).toNat = i + j + 1 by omega]; exact getD_some hj1)) (ev_pair0 (ev_var rfl) (ev_var rfl) hP (by omega) gj) rv_I0
        | some r =>
          refine ⟨lb && (true && decide (tot rs (i + (j + 1)) - tot rs i > r)), ?_, ?_⟩
          · rw [Bool.true_and, Bool.and_eq_true, hlb, decide_eq_true_eq]
            unfold LOver Over excB
            rw [e1]
            constructor
            · exact fun ⟨z1, z2⟩ => ⟨z1, _, rfl, by show 0 < tot rs (i + j + 1) - tot rs i - r; have z3 : tot rs (i + j + 1) - tot rs i > r := z2; omega⟩
            · exact fun ⟨z1, z, hz, pz⟩ => ⟨z1, by
                injection hz with hz
                dsimp only at hz
                show tot rs (i + j + 1) - tot rs i > r
                omega⟩
          · refine go_seq (st1 rfl) (go_seq (nx_asg (v := .bl lb) (ev_orV (ev_op (ev_op (ev_var rfl) ev_c rv_I0) (ev_lenP (ev_var rfl) hP) (rv_eq rfl)) fun hz => ?_)) (go_seq (nx_asg (v := .int r) (ev_is (ev_callF (ea_cons (ev_var rfl) (ea_cons (ev_pair0 (ev_var rfl) (ev_var rfl) hP (by omega) gi) (ea_cons (ev_pair0 (ev_var rfl) (ev_var rfl) hP (by omega) gj) ea_nil))) (rRoomL hp bok)) (congrArg opV e1))) (go_if (et_and (et_B (ev_var rfl)) fun _ => et_and (a := true) (et_is (et_test (ev_notN (ev_var (v := .int r) rfl))) rfl) fun _ => et_test (ev_op (ev_var rfl) (ev_var rfl) rv_I0)) (fun _ => rtw_ret (evw_tup (eu_tup (ea_cons (ev_pair0 (ev_var rfl) (ev_var rfl) hP (by omega) gi) (ea_cons (ev_pair0 (ev_var rfl) (ev_var rfl) hP (by omega) gj) ea_nil)) (by simp only [List.length_cons, List.length_nil]; omega)))) fun _ => nxp_of nx_next ⟨_, _, _, rfl⟩)))
            have hj1 : i + j + 1 < rs.length := by
              have := of_decide_eq_false hz
              exact Nat.lt_of_le_of_ne (by omega) fun z => this (congrArg V.int (by omega))
            exact ev_op (ev_pair0 (ev_var rfl) (ev_op (ev_var rfl) ev_c rv_I0) hP (by omega) (by rw [show (((i + j : Nat) : Int) + 1).toNat = i + j + 1 by omega]; exact getD_some hj1)) (ev_pair0 (ev_var rfl) (ev_var rfl) hP (by omega) gj) rv_I0
      let Iv2 : Nat → L2.St → Prop := fun j σ => (∃ o4 o5 o6, σ = lfS p l (some (.int (i : Int))) (some (.int (tot rs (i + j) - tot rs i))) o4 o5 o6) ∧ ∀ e, i ≤ e → e < i + j → ¬ LOver bd rs i e
      have iv0 : Iv2 0 (lfS p l (some (.int (i : Int))) (some (.int 0)) o4 o5 o6) := ⟨⟨o4, o5, o6, by
        have z : tot rs (i + 0) - tot rs i = 0 := by
          show tot rs i - tot rs i = 0
          omega
        rw [z]⟩, fun e a b => by omega⟩
      have its : EvI (iRng2 (tCons (tVar 2) (tCons (tCB (fun xs H Q => ∃ p ys, xs = [.ref p] ∧ (SqL K H p ys ∨ SqT K H p ys) ∧ Q (.int ys.length) H) (tCons (tVar 1) tNil)) tNil))) (lfS p l (some (.int (i : Int))) (some (.int 0)) o4 o5 o6) H (fun j => .int ((i : Int) + (j : Int))) (rs.length - i) := by
        have z := ei_r2 (σ := lfS p l (some (.int (i : Int))) (some (.int 0)) o4 o5 o6) (a := (i : Int)) (n := (rs.length : Int)) (ea_cons (ev_var (i := 2) rfl) (ea_cons (ev_lenP (K := K) (ev_var (i := 1) rfl) hP) ea_nil)) ⟨by omega, by omega, by omega, by omega⟩
        rw [hmany] at z
        exact z
      have more : ∀ {j : Nat}, (∀ e, i ≤ e → e < i + j → ¬ LOver bd rs i e) → ¬ LOver bd rs i (i + j) → ∀ e, i ≤ e → e < i + (j + 1) → ¬ LOver bd rs i e := fun {j} h1 h2 e a b => by
        by_cases q : e = i + j
        · rw [q]
          exact h2
        · exact h1 e a (by omega)
      by_cases hL : LPos bd rs i
      · refine .inr (grtw_name2 (rtw_seq (nx_asg (v := .int 0) ev_c) (rtwp_for0 Iv2 iv0 its (fun j σ hj ⟨⟨p4, p5, p6, hσ⟩, hn2⟩ => ?_) fun σ ⟨_, hn2⟩ => ?_)))
        · subst hσ
          obtain ⟨bb, hb, go⟩ := turn j p4 p5 p6 (by omega)
          cases bb with
          | false => exact .inl (gnxp_name ((go.1 rfl).imp fun σ hσ => ⟨hσ, more hn2 fun z => by cases hb.mpr z⟩))
          | true => exact .inr (grtw_name2 ((go.2 rfl).imp fun v H1 ⟨q, ev, hq⟩ => ⟨some (mom rs i, mom rs (i + j)), ⟨some i, ⟨Nat.zero_le _, hi, hL, fun s' _ h => hno s' h⟩, i + j, by omega, by omega, hb.mp rfl, fun e a b => hn2 e a b, rfl⟩, q, ev, hq⟩))
        · obtain ⟨e, e1, e2, e3⟩ := hL
          exact hn2 e e1 (by omega) e3
      · refine .inl (gnxp_name (nxp_seq (nx_asg (v := .int 0) ev_c) (NxP.imp (nxp_for Iv2 iv0 its fun j σ hj ⟨⟨p4, p5, p6, hσ⟩, hn2⟩ => ?_) fun σ ⟨⟨p4, p5, p6, hσ⟩, _⟩ => ⟨⟨_, _, _, _, _, hσ⟩, fun s hs => ?_⟩)))
        · subst hσ
          obtain ⟨bb, hb, go⟩ := turn j p4 p5 p6 (by omega)
          cases bb with
          | false => exact gnxp_name ((go.1 rfl).imp fun σ hσ => ⟨hσ, more hn2 fun z => by cases hb.mpr z⟩)
          | true => exact absurd ⟨i + j, by omega, by omega, hb.mp rfl⟩ hL
        · by_cases q : s = i
          · rw [q]
            exact hL
          · exact hno s (by omega)
    · subst hσ
      refine rtw_ret (evw_v ev_c fun H1 e => ⟨none, ⟨none, fun s _ h => hno s (by rw [Int.toNat_natCast]; exact h), rfl⟩, rfl⟩)
end
/-! Broken, made -/
def fBroken (k : Int) (st : Addr) : List (Str × V) := [("stretch", .ref st), ("k", .int k)]
def spBroken2 (K : PySem.W.Frag) (C : Addr) : Sp := fun vs H Q _ => ∃ (a st : Addr) (k x y : Int), vs = [.ref a, .int k, .ref st] ∧ k.natAbs.log2 < 1920 ∧ SqT K H st [.int x, .int y] ∧ x.natAbs.log2 < 1920 ∧ y.natAbs.log2 < 1920 ∧ H a = some (exo a C none) ∧
  ∀ H2 d, H d = none → (∀ b o, b ≠ a → H b = some o → H2 b = some o) → H2 a = some (exo a C (some d)) → H2 d = some (exd d (fBroken k st)) → Q .non H2
theorem app_le {x y : Str} {a b : Nat} (h1 : x.length ≤ a) (h2 : y.length ≤ b) : (x ++ y).length ≤ a + b := by
  rw [strLen_append]
  omega
theorem num_le {i : Int} (h : i.natAbs.log2 < 1920) : (toString i : Str).length ≤ 1921 := int_text_len_1921 h
theorem log_mid {i : Int} (h0 : 0 ≤ i) (h1 : i ≤ 1000000000000) : i.natAbs.log2 < 1920 := by
  by_cases z : i.natAbs = 0
  · rw [z]
    decide
  · have h : i.natAbs < 2 ^ 48 := by
      have : (2 : Nat) ^ 48 = 281474976710656 := by decide
      omega
    have := (Nat.log2_lt z).mpr h
    omega
section
variable {P : Program} {w : World} {K : PySem.W.Frag} {mg : Str → Option Value} {base : Heap} {C f cc cda : Addr}
theorem ok_Broken2 {oc kV doc pm ct : Value} {od an : Option Addr} {osl : Array (Option Value)} (S : SupC K P C f cc cda) (hms : mg "super" = none) (no1 : PySem.W.findIn K (.ref C) "k" = some none) (no2 : PySem.W.findIn K (.ref C) "stretch" = some none)
    (lk : K.lookup f = some ⟨oc, od, .func (PySem.W.fnX "__init__" "Broken.__init__" (C8.fnArgs s_Broken_init) (C8.fnBody s_Broken_init) (C8.fnScope s_Broken_init) [("__class__", cc)] .none kV doc pm an (.ref cda) ct), osl⟩) (hcd : PySem.W.codeIn K (.ref cda) "Broken.__init__" = true) :
    FnOk P w K mg base C8.CX0 1 f (PySem.W.fnX "__init__" "Broken.__init__" (C8.fnArgs s_Broken_init) (C8.fnBody s_Broken_init) (C8.fnScope s_Broken_init) [("__class__", cc)] .none kV doc pm an (.ref cda) ct) ["self", "k", "stretch"] (spBroken2 K C) := by
  refine fn_sup (N := ["self", "k", "stretch", "__class__"]) lk hcd S.cell sc_Broken_init (fun vs H Q E h => ?_) (fun A outer s s1 H vs Q E hr h I => ?_)
  · obtain ⟨a, st, k, x, y, rfl, _⟩ := h
    rfl
  · obtain ⟨a, st, k, x, y, rfl, hk, hst, hx, hy, ha, q⟩ := h
    refine at_super (X := NdefX.ncx C8.CX0 P w K mg base ["self", "k", "stretch", "__class__"] (nfS "Broken.__init__" s_Broken_init cc cda) f A outer s H E) S lk hms rfl rfl rfl rfl rfl rfl rfl rfl (pe_joined (.cons pe_str (.cons (pe_fmt (pv 1)) (.cons pe_str (.cons (pe_fmtN hr (pv 2)) .nil))))) (pss_cons (ps_ost (pv 0) (pv 1))
  (pss_one (ps_ost (pv 0) (pv 2)))) I rfl ha ?_ ?_
    · intro H1 e Q2 q2
      refine ⟨_, rfl, by decide +kernel, _, rfl, Or.inr ⟨k, rfl, hk, _, rfl, ?_, _, rfl, ?_, _, rfl, st, [x, y], rfl, ex_t e hst, fun i hi => ?_, (show 2 ≤ 4 by decide), fun m hm => ⟨m, rfl, ?_, q2 _ H1 (Ex.refl H1) True.intro⟩⟩⟩
      · exact Nat.le_trans (app_le (a := 1000) (by decide +kernel) (num_le hk)) (by decide)
      · exact Nat.le_trans (app_le (b := 1000) (app_le (a := 1000) (by decide +kernel) (num_le hk)) (by decide +kernel)) (by decide)
      · rcases List.mem_cons.mp hi with rfl | hi
        · exact hx
        · rw [List.mem_singleton.mp hi]
          exact hy
      · exact Nat.le_trans (app_le (app_le (b := 1000) (app_le (a := 1000) (by decide +kernel) (num_le hk)) (by decide +kernel)) hm) (by decide)
    · intro H1 e1
      refine ⟨_, rfl, _, rfl, a, C, rfl, S.ox, no1, .inl ⟨e1 _ _ ha, fun dx n ne => ?_⟩⟩
      refine ⟨_, rfl, _, rfl, a, C, rfl, S.ox, no2, .inr ⟨dx, [("k", .int k)], upd_same, by rw [upd_ne ne]; exact upd_same, (show 1 ≤ 900 by decide), ?_⟩⟩
      refine q _ dx (fresh_back e1 n) (fun b o hb hz => ?_) ?_ upd_same
      · have nb := ne_of_none (e1 _ _ hz) n
        rw [upd_ne nb, upd_ne hb, upd_ne nb]
        exact e1 _ _ hz
      · rw [upd_ne (Ne.symm ne)]
        exact upd_same
end
/-! the book's row: where a visit goes, which one is dropped, what is broken first -/
def plc : VS → Int → Nat
  | [], _ => 0
  | q :: r, t => if q.1 ≤ t then plc r t + 1 else 0
theorem plc_le : ∀ (rs : VS) (t : Int), plc rs t ≤ rs.length
  | [], _ => Nat.le_refl _
  | q :: r, t => by
    rw [plc, List.length_cons]
    have := plc_le r t
    split <;> omega
theorem plc_ahead : ∀ (rs : VS) (t : Int) (i : Nat), i < plc rs t → mom rs i ≤ t
  | [], _, _, h => absurd h (Nat.not_lt_zero _)
  | q :: r, t, i, h => by
    rw [plc] at h
    by_cases z : q.1 ≤ t
    · rw [if_pos z] at h
      cases i with
      | zero => exact z
      | succ i => exact plc_ahead r t i (by omega)
    · rw [if_neg z] at h
      exact absurd h (Nat.not_lt_zero _)
theorem plc_next : ∀ (rs : VS) (t : Int), plc rs t < rs.length → t < mom rs (plc rs t)
  | [], _, h => absurd h (Nat.not_lt_zero _)
  | q :: r, t, h => by
    rw [plc] at h ⊢
    by_cases z : q.1 ≤ t
    · rw [if_pos z] at h ⊢
      exact plc_next r t (by rw [List.length_cons] at h; omega)
    · rw [if_neg z]
      exact Int.not_le.mp z
theorem plc_behind {rs : VS} {t : Int} (ok : VOk rs) {i : Nat} (h1 : plc rs t ≤ i) (h2 : i < rs.length) : t < mom rs i := Int.lt_of_lt_of_le (plc_next rs t (by omega)) (ok.mono _ _ h1 h2)
def insB (rs : VS) (t c : Int) : VS := rs.take (plc rs t) ++ (t, c) :: rs.drop (plc rs t)
theorem ins_len (rs : VS) (t c : Int) : (insB rs t c).length = rs.length + 1 := by
  have := plc_le rs t
  unfold insB
  rw [List.length_append, List.length_cons, List.length_take, List.length_drop]
  omega
theorem ins_at (rs : VS) (t c : Int) (i : Nat) : (insB rs t c).getD i (0, 0) = if i < plc rs t then rs.getD i (0, 0) else if i = plc rs t then (t, c) else rs.getD (i - 1) (0, 0) := by
  have hp := plc_le rs t
  have hl : (rs.take (plc rs t)).length = plc rs t := by rw [List.length_take]; omega
  unfold insB
  rw [List.getD_eq_getElem?_getD, List.getElem?_append, hl]
  by_cases h : i < plc rs t
  · rw [if_pos h, if_pos h, List.getElem?_take, if_pos h, List.getD_eq_getElem?_getD]
  · rw [if_neg h, if_neg h]
    by_cases e : i = plc rs t
    · subst e
      rw [if_pos rfl, Nat.sub_self]
      rfl
    · obtain ⟨k, hk⟩ : ∃ k, i - plc rs t = k + 1 := ⟨i - plc rs t - 1, by omega⟩
      rw [if_neg e, hk, List.getElem?_cons_succ, List.getElem?_drop, List.getD_eq_getElem?_getD, show plc rs t + k = i - 1 by omega]
theorem ins_ok {rs : VS} {t c : Int} (ok : VOk rs) (hc : 1 ≤ c) : VOk (insB rs t c) := by
  have hp := plc_le rs t
  have hn := ins_len rs t c
  refine ⟨fun i hi => ?_, fun i j hij hj => ?_⟩
  · rw [ins_at]
    split
    · exact ok.cost i (by omega)
    · split
      · exact hc
      · exact ok.cost (i - 1) (by omega)
  · rw [ins_at, ins_at]
    have a1 : i < plc rs t → (rs.getD i (0, 0)).1 ≤ t := plc_ahead rs t i
    have a2 : plc rs t ≤ j - 1 → j - 1 < rs.length → t < (rs.getD (j - 1) (0, 0)).1 := plc_behind ok
    by_cases h1 : i < plc rs t
    · rw [if_pos h1]
      by_cases h2 : j < plc rs t
      · rw [if_pos h2]
        exact ok.rise i j hij (by omega)
      · rw [if_neg h2]
        by_cases h3 : j = plc rs t
        · rw [if_pos h3]
          exact a1 h1
        · rw [if_neg h3]
          exact ok.rise i (j - 1) (by omega) (by omega)
    · rw [if_neg h1, if_neg (show ¬ j < plc rs t by omega)]
      by_cases h2 : i = plc rs t
      · rw [if_pos h2]
        by_cases h3 : j = plc rs t
        · rw [if_pos h3]
          exact Int.le_refl _
        · rw [if_neg h3]
          exact Int.le_of_lt (a2 (by omega) (by omega))
      · rw [if_neg h2, if_neg (show ¬ j = plc rs t by omega)]
        exact ok.rise (i - 1) (j - 1) (by omega) (by omega)
theorem ins_mem {rs : VS} {t c : Int} {q : Int × Int} (h : q ∈ insB rs t c) : q ∈ rs ∨ q = (t, c) := by
  unfold insB at h
  rcases List.mem_append.mp h with h | h
  · exact .inl (List.mem_of_mem_take h)
  · rcases List.mem_cons.mp h with h | h
    · exact .inr h
    · exact .inl (List.mem_of_mem_drop h)
theorem mom_mem {rs : VS} {i : Nat} (h : i < rs.length) : ∃ q ∈ rs, mom rs i = q.1 := by
  refine ⟨rs[i], List.getElem_mem h, ?_⟩
  unfold mom
  rw [List.getD_eq_getElem?_getD, List.getElem?_eq_getElem h]
  rfl
/-! the first equal one -/
def fndI : VS → Int × Int → Nat
  | [], _ => 0
  | p :: r, q => if p = q then 0 else fndI r q + 1
theorem fnd_at : ∀ (rs : VS) (q : Int × Int), q ∈ rs → rs[fndI rs q]? = some q
  | [], _, h => by cases h
  | p :: r, q, h => by
    rw [fndI]
    by_cases e : p = q
    · rw [if_pos e, e]
      rfl
    · rw [if_neg e, List.getElem?_cons_succ]
      exact fnd_at r q (by
        rcases List.mem_cons.mp h with h | h
        · exact absurd h.symm e
        · exact h)
theorem fnd_no : ∀ (rs : VS) (q : Int × Int) (m : Nat) (p : Int × Int), m < fndI rs q → rs[m]? = some p → p ≠ q
  | [], _, _, _, h, _ => absurd h (Nat.not_lt_zero _)
  | x :: r, q, m, p, h, hm => by
    rw [fndI] at h
    by_cases e : x = q
    · rw [if_pos e] at h
      exact absurd h (Nat.not_lt_zero _)
    · rw [if_neg e] at h
      cases m with
      | zero =>
        cases hm
        exact e
      | succ m => exact fnd_no r q m p (by omega) hm
def remI (rs : VS) (q : Int × Int) : VS := rs.eraseIdx (fndI rs q)
theorem era_at (rs : VS) (k i : Nat) : (rs.eraseIdx k).getD i (0, 0) = if i < k then rs.getD i (0, 0) else rs.getD (i + 1) (0, 0) := by
  rw [List.getD_eq_getElem?_getD, List.getElem?_eraseIdx]
  split <;> rw [List.getD_eq_getElem?_getD]
theorem era_ok {rs : VS} {k : Nat} (ok : VOk rs) (hk : k < rs.length) : VOk (rs.eraseIdx k) := by
  have hn := List.length_eraseIdx_of_lt hk
  refine ⟨fun i hi => ?_, fun i j hij hj => ?_⟩
  · rw [era_at]
    split
    · exact ok.cost i (by omega)
    · exact ok.cost (i + 1) (by omega)
  · rw [era_at, era_at]
    by_cases h1 : i < k
    · rw [if_pos h1]
      by_cases h2 : j < k
      · rw [if_pos h2]
        exact ok.rise i j hij (by omega)
      · rw [if_neg h2]
        exact ok.rise i (j + 1) (by omega) (by omega)
    · rw [if_neg h1, if_neg (by omega)]
      exact ok.rise (i + 1) (j + 1) (by omega) (by omega)
theorem fnd_lt {rs : VS} {q : Int × Int} (h : q ∈ rs) : fndI rs q < rs.length := (List.getElem?_eq_some_iff.mp (fnd_at rs q h)).1
/-! what is broken first -/
noncomputable def brkF (bd : Bd) (rs : VS) : Option (Int × Int) := Classical.choose (bfst_ex bd rs)
theorem brkF_is (bd : Bd) (rs : VS) : BFst bd rs (brkF bd rs) := Classical.choose_spec (bfst_ex bd rs)
noncomputable def fstB : List Bd → VS → Nat → Option (Nat × Int × Int)
  | [], _, _ => none
  | b :: r, rs, k => match brkF b rs with
    | some q => some (k, q)
    | none => fstB r rs (k + 1)
theorem fstB_no {b : Bd} {r : List Bd} {rs : VS} {k : Nat} (h : brkF b rs = none) : fstB (b :: r) rs k = fstB r rs (k + 1) := by rw [fstB, h]
theorem fstB_yes {b : Bd} {r : List Bd} {rs : VS} {k : Nat} {q : Int × Int} (h : brkF b rs = some q) : fstB (b :: r) rs k = some (k, q) := by rw [fstB, h]
/-- its stretch is one of the row's moments -/
theorem brkF_in {bd : Bd} {rs : VS} {q : Int × Int} (h : brkF bd rs = some q) : ∃ i j, i < rs.length ∧ j < rs.length ∧ q = (mom rs i, mom rs j) := by
  have z := brkF_is bd rs
  rw [h] at z
  obtain ⟨t, _, hm⟩ := z
  cases t with
  | none => cases hm
  | some s =>
    obtain ⟨e, h1, h2, _, _, h5⟩ := hm
    injection h5 with h5
    exact ⟨s, e, by omega, h2, h5⟩
def InM (rs : VS) : Prop := ∀ q ∈ rs, 0 ≤ q.1 ∧ q.1 ≤ 1000000000000
theorem brkF_log {bd : Bd} {rs : VS} {q : Int × Int} (m : InM rs) (h : brkF bd rs = some q) : q.1.natAbs.log2 < 1920 ∧ q.2.natAbs.log2 < 1920 := by
  obtain ⟨i, j, hi, hj, e⟩ := brkF_in h
  subst e
  obtain ⟨a, ha, ea⟩ := mom_mem hi
  obtain ⟨b, hb, eb⟩ := mom_mem hj
  have za := m a ha
  have zb := m b hb
  exact ⟨log_mid (by show 0 ≤ mom rs i; omega) (by show mom rs i ≤ _; omega), log_mid (by show 0 ≤ mom rs j; omega) (by show mom rs j ≤ _; omega)⟩
/-! the book in the heap -/
theorem ev_opU1 {ta tb : TE} {σ : L2.St} {H : Hp} {r : R2} {xs : List V} {y z : V} (ha : EvU ta σ H xs) (hb : Ev tb σ H y) (hr : ∀ p H1, H1 p = some (.tup xs) → Ex H H1 → RV r (.ref p) y H1 z) : Ev (tOp r ta tb) σ H z := fun H1 e Q q =>
  ha H1 e _ fun p H2 _ e2 hp => hb H2 (e.trans e2) _ fun H3 e3 => hr p H2 hp (e.trans e2) H3 e3 Q fun H4 e4 => q H4 ((e2.trans e3).trans e4)
theorem tconsU9 {te : TE} {tr : TA} {σ : L2.St} {H : Hp} {Q : List V → Hp → Prop} {xs : List V} (h : EvU te σ H xs) (k : ∀ p H1, H p = none → Ex H H1 → H1 p = some (.tup xs) → tr σ H1 fun ys H2 => Q (.ref p :: ys) H2) : tCons te tr σ H Q := h H (Ex.refl H) _ k
theorem tabs_keep {T : List NdefX.NTab} {H H' : Hp} (t : NdefX.TabsN T H) (k : ∀ a o, H a = some o → (∀ xs, o ≠ .lst xs) → (∀ C dx fs, o ≠ .ins C dx fs) → H' a = some o) : NdefX.TabsN T H' := fun p hp => by
  obtain ⟨ps, h1, h2, h3⟩ := t p hp
  refine ⟨ps, k _ _ h1 (fun _ z => by cases z) (fun _ _ _ z => by cases z), h2, fun pos cv hc => ?_⟩
  obtain ⟨c, e1, e2⟩ := h3 pos cv hc
  exact ⟨c, e1, k _ _ e2 (fun _ z => by unfold LamX.CodeO at z; cases z) (fun _ _ _ z => by unfold LamX.CodeO at z; cases z)⟩
theorem tabs_lst {T : List NdefX.NTab} {H : Hp} {l : Addr} {xs : List V} {o : HO} (t : NdefX.TabsN T H) (h : H l = some (.lst xs)) : NdefX.TabsN T (upd H l o) := tabs_keep t fun a u ha n1 _ => by
  by_cases e : a = l
  · subst e
    rw [h] at ha
    cases ha
    exact absurd rfl (n1 _)
  · rw [upd_ne e]
    exact ha
theorem tabs_ins {T : List NdefX.NTab} {H : Hp} {l C dx : Addr} {fs : List (Str × V)} {o : HO} (t : NdefX.TabsN T H) (h : H l = some (.ins C dx fs)) : NdefX.TabsN T (upd H l o) := tabs_keep t fun a u ha _ n2 => by
  by_cases e : a = l
  · subst e
    rw [h] at ha
    cases ha
    exact absurd rfl (n2 _ _ _)
  · rw [upd_ne e]
    exact ha
theorem BdAt.exN {cJ cW y : Addr} {bd : Bd} {H H' : Hp} (e : LamX.ExtN H H') (h : BdAt cJ cW bd y H) : BdAt cJ cW bd y H' := by
  cases bd with
  | jar s f => exact h.imp fun d z => e _ _ z fun _ z => by cases z
  | win s f => exact h.imp fun d z => e _ _ z fun _ z => by cases z
theorem BdAt.upd {cJ cW y l : Addr} {bd : Bd} {H : Hp} {o : HO} (h : BdAt cJ cW bd y H) (n : ∀ C dx fs, H l ≠ some (.ins C dx fs)) : BdAt cJ cW bd y (upd H l o) := by
  cases bd with
  | jar s f =>
    obtain ⟨d, h⟩ := h
    exact ⟨d, by rw [upd_ne (fun e => n _ _ _ (by rw [← e]; exact h))]; exact h⟩
  | win s f =>
    obtain ⟨d, h⟩ := h
    exact ⟨d, by rw [upd_ne (fun e => n _ _ _ (by rw [← e]; exact h))]; exact h⟩
theorem BdAt.updI {cJ cW cB y l dx : Addr} {bd : Bd} {H : Hp} {o : HO} {fs : List (Str × V)} (h : BdAt cJ cW bd y H) (hl : H l = some (.ins cB dx fs)) (nf : ∀ s f, fs ≠ fJar s f) (nw : ∀ s f, fs ≠ fWin s f) : BdAt cJ cW bd y (L2.upd H l o) := by
  cases bd with
  | jar s f =>
    obtain ⟨d, h⟩ := h
    exact ⟨d, by rw [upd_ne (fun e => by rw [e, hl] at h; injection h with h; injection h with _ _ h; exact nf _ _ h)]; exact h⟩
  | win s f =>
    obtain ⟨d, h⟩ := h
    exact ⟨d, by rw [upd_ne (fun e => by rw [e, hl] at h; injection h with h; injection h with _ _ h; exact nw _ _ h)]; exact h⟩
def fBook (lb lr : Addr) : List (Str × V) := [("_bounds", .ref lb), ("_row", .ref lr)]
theorem fBook_J (lb lr : Addr) (s f : Int) : fBook lb lr ≠ fJar s f := fun z => by
  unfold fBook fJar at z
  injection z with z _
  injection z with _ z
  cases z
theorem fBook_W (lb lr : Addr) (s f : Int) : fBook lb lr ≠ fWin s f := fun z => by
  unfold fBook fWin at z
  injection z with z _
  injection z with _ z
  cases z
structure ClBk (K : PySem.W.Frag) (C : Addr) : Prop where
  cl : Cls K C
  n1 : NoAttr K C "_bounds"
  n2 : NoAttr K C "_row"
structure BookAt (cJ cW cB b lb lr : Addr) (bds : List Bd) (rs : VS) (H : Hp) : Prop where
  ob : ∃ d, H b = some (.ins cB d (fBook lb lr))
  bs : ∃ ys : List Addr, H lb = some (.lst (ys.map V.ref)) ∧ Paired (fun bd y => BdAt cJ cW bd y H) bds ys
  rows : PairsT H lr rs
  ne : lb ≠ lr
section
variable {cJ cW cB b lb lr : Addr} {bds : List Bd} {rs : VS} {H H' : Hp}
theorem BookAt.exN (h : BookAt cJ cW cB b lb lr bds rs H) (e : LamX.ExtN H H') : BookAt cJ cW cB b lb lr bds rs H' := by
  obtain ⟨⟨d, h1⟩, ⟨ys, h2, h3⟩, h4, h5⟩ := h
  exact ⟨⟨d, e _ _ h1 fun _ z => by cases z⟩, ⟨ys, exN_lst e h2, paired_imp h3 fun _ _ z => z.exN e⟩, exN_pairs e h4, h5⟩
theorem BookAt.mono (h : BookAt cJ cW cB b lb lr bds rs H) (e : Ex H H') : BookAt cJ cW cB b lb lr bds rs H' := h.exN (Ex.extN e)
/-- a list that is not its own changes -/
theorem BookAt.other (h : BookAt cJ cW cB b lb lr bds rs H) {l : Addr} {xs : List V} {o : HO} (hl : H l = some (.lst xs)) (n1 : l ≠ lb) (n2 : l ≠ lr) : BookAt cJ cW cB b lb lr bds rs (upd H l o) := by
  obtain ⟨⟨d, h1⟩, ⟨ys, h2, h3⟩, ⟨ps, h4, h6⟩, h5⟩ := h
  refine ⟨⟨d, ?_⟩, ⟨ys, ?_, paired_imp h3 fun _ _ z => z.upd fun C dx fs e => by rw [hl] at e; cases e⟩, ⟨ps, ?_, h6.upd fun xs e => by rw [hl] at e; cases e⟩, h5⟩
  · rw [upd_ne (fun e => by rw [← e, h1] at hl; cases hl)]
    exact h1
  · rw [upd_ne n1.symm]
    exact h2
  · rw [upd_ne n2.symm]
    exact h4
/-- its row, another one -/
theorem BookAt.row (h : BookAt cJ cW cB b lb lr bds rs H) {p d : Addr} {rs' : VS} (hb : H b = some (.ins cB d (fBook lb lr))) (hp : PairsT H p rs') (np : lb ≠ p) : BookAt cJ cW cB b lb p bds rs' (upd H b (.ins cB d (fBook lb p))) := by
  obtain ⟨_, ⟨ys, h2, h3⟩, _, h5⟩ := h
  obtain ⟨ps, h4, h6⟩ := hp
  refine ⟨⟨d, upd_same⟩, ⟨ys, ?_, paired_imp h3 fun _ _ z => z.updI hb (fBook_J _ _) (fBook_W _ _)⟩, ⟨ps, ?_, h6.upd fun xs e => by rw [hb] at e; cases e⟩, np⟩
  · rw [upd_ne (fun e => by rw [e, hb] at h2; cases h2)]
    exact h2
  · rw [upd_ne (fun e => by rw [e, hb] at h4; cases h4)]
    exact h4
end
/-! a row with a visit more -/
def RRow (vs : List V) (H : Hp) (W : V → Hp → Prop) : Prop := ∃ l rs t c H0, vs = [.ref l, .int t, .int c] ∧ PairsT H l rs ∧ VOk rs ∧ rs.length ≤ 300 ∧ Ex H0 H ∧ W = fun v H2 => ∃ p, v = .ref p ∧ H0 p = none ∧ PairsT H2 p (insB rs t c)
theorem sl_take (vs : List V) (p : Nat) (h : p ≤ vs.length) : cutV vs none (some (p : Int)) = vs.take p := by
  unfold cutV
  rw [HT.sIx_nat, HT.sIx_none, List.drop_zero, Nat.sub_zero, show min p vs.length = p by omega]
theorem sl_drop (vs : List V) (p : Nat) (h : p ≤ vs.length) : cutV vs (some (p : Int)) none = vs.drop p := by
  unfold cutV
  rw [HT.sIx_nat, HT.sIx_none, show min p vs.length = p by omega]
  exact List.take_of_length_le (by rw [List.length_drop]; omega)
theorem Prs.ins {H : Hp} {ps : List Addr} {rs : VS} {p : Addr} {t c : Int} (h : Prs H ps rs) (hp : H p = some (.tup [.int t, .int c])) : Prs H (ps.take (plc rs t) ++ p :: ps.drop (plc rs t)) (insB rs t c) := by
  have z := (h.take (plc rs t)).snoc (q := (t, c)) hp
  have go : ∀ {as : List Addr} {xs : VS} {bs : List Addr} {ys : VS}, Prs H as xs → Prs H bs ys → Prs H (as ++ bs) (xs ++ ys) := fun {as xs bs ys} h1 h2 => by
    induction h1 with
    | nil => exact h2
    | cons a _ ih => exact .cons a ih
  exact go (h.take _) (.cons hp (h.drop _))
theorem map_era : ∀ (ps : List Addr) (k : Nat), (ps.map V.ref).eraseIdx k = (ps.eraseIdx k).map V.ref
  | [], _ => rfl
  | _ :: _, 0 => rfl
  | p :: ps, k + 1 => by
    show V.ref p :: (ps.map V.ref).eraseIdx k = V.ref p :: (ps.eraseIdx k).map V.ref
    rw [map_era ps k]
theorem prs_era {H : Hp} : ∀ {ps : List Addr} {rs : VS}, Prs H ps rs → ∀ k : Nat, Prs H (ps.eraseIdx k) (rs.eraseIdx k)
  | _, _, .nil, _ => .nil
  | _, _, .cons _ t, 0 => t
  | _, _, .cons h t, k + 1 => .cons h (prs_era t k)
theorem paired_set {α β : Type} {R : α → β → Prop} : ∀ {xs : List α} {ys : List β}, Paired R xs ys → ∀ {x : α} {y : β}, R x y → ∀ k : Nat, Paired R (xs.set k x) (ys.set k y)
  | _, _, .nil, _, _, _, _ => .nil
  | _, _, .cons _ t, _, _, r, 0 => .cons r t
  | _, _, .cons h t, _, _, r, k + 1 => .cons h (paired_set t r k)
section
variable {P : Program} {w : World} {K : PySem.W.Frag} {mg : Str → Option Value} {base : Heap}
theorem cal_row_with {f : Addr} {fd : FuncData} (T : Blt mg) (F : C8.Def K mg "_row_with" s_row_with f fd) (b : Binds K fd ["row", "moment", "cost"] []) : C8.Cal P w K mg base 1 "_row_with" (spW RRow) [] := by
  refine calW F b sc_row_with (fun vs H v h => ?_) (fun cdv A outer s H vs W E hr h => ?_)
  · obtain ⟨l, rs, t, c, H0, rfl, _⟩ := h
    rfl
  · obtain ⟨l, rs, t, c, H0, rfl, hP, ok, hn, e0, rfl⟩ := h
    refine ⟨_, (pss_cons (ps_set (i := 3) sc_row_with.nd rfl (Or.inl rfl) (pe_callB call_len_seq (by rfl) T.b_len boot_len (pa_cons (pv 0) pa_nil)))
  (pss_cons (ps_while PassesOwn.never (PW.pt (pw_and (pt_cmpR op_gt (pv 3) pe_int (nomark _)) (pw_and1 (pt_cmpR op_gt (pe_ix ix_tup (pe_ix ix_list (pv 0) (pe_op op_sub (pv 3) pe_int) (fun _ _ => rfl)) pe_int (fun _ _ => rfl)) (pv 1) (nomark _)))))
    (pss_one (ps_aug (i := 3) sc_row_with.nd rfl (Or.inl rfl) pe_int ip_sub)))
  (pss_one (ps_ret (pe_op op_cat (pe_op op_cat (pe_slice sl_list (pv 0) po_none (po_some (pv 3))) (pe_lst (pa_cons (pe_tup (pa_cons (pv 1) (pa_cons (pv 2) pa_nil))) pa_nil))) (pe_slice sl_list (pv 0) (po_some (pv 3)) po_none)))))), ?_⟩
    have hp := plc_le rs t
    refine rtw_seq (nx_asg (v := .int (rs.length : Int)) (ev_lenP (K := K) (ev_var rfl) hP)) ?_
    have lp := nx_while (c := tAnd (tTest (tOp (rI0 fun i j => V.bl (decide (i > j))) (tVar 3) (tC (.int 0)))) (tTest (tOp (rI0 fun i j => V.bl (decide (i > j))) (tOp (rIxT K) (tOp (rIxL K) (tVar 0) (tOp (rI0 fun i j => V.int (i - j)) (tVar 3) (tC (.int 1)))) (tC (.int 0))) (tVar 1)))) (u := tAug 3 (tC (.int 1)) (ipI fun i j => i - j)) (H := H)
      (rs.length - plc rs t) (fun i => [some (.ref l), some (.int t), some (.int c), some (.int ((rs.length - i : Nat) : Int))]) (fun i hi => ?_) ?_
    rotate_left
    · have hb := plc_behind (t := t) ok (i := rs.length - i - 1) (by omega) (by omega)
      refine ⟨et_is (et_and (a := true) (b := true) (et_test (ev_is (ev_op (ev_var rfl) ev_c rv_I0) (congrArg V.bl (decide_eq_true (by omega))))) fun _ => et_test (ev_is (ev_op (ev_pair0 (i := ((rs.length - i : Nat) : Int) - 1) (ev_var rfl) (ev_op (ev_var rfl) ev_c rv_I0) hP (by omega) (q := rs.getD (rs.length - i - 1) (0, 0)) (by rw [show (((rs.length - i : Nat) : Int) - 1).toNat = rs.length - i - 1 by omega]; exact getD_some (by omega))) (ev_var rfl) rv_I0) (congrArg V.bl (decide_eq_true hb)))) rfl, ?_⟩
      have z := nx_aug (H := H) (te := tC (.int 1)) (f := fun i j => i - j) (i := 3) (σ := [some (.ref l), some (.int t), some (.int c), some (.int ((rs.length - i : Nat) : Int))]) (a := ((rs.length - i : Nat) : Int)) (d := 1) rfl ev_c
      rw [show ((rs.length - i : Nat) : Int) - 1 = ((rs.length - (i + 1) : Nat) : Int) by omega] at z
      exact z
    · rw [show rs.length - (rs.length - plc rs t) = plc rs t by omega]
      by_cases z : plc rs t = 0
      · exact et_is (et_and (a := false) (b := false) (et_test (ev_is (ev_op (ev_var rfl) ev_c rv_I0) (congrArg V.bl (decide_eq_false (by omega))))) fun z => by cases z) rfl
      · have ha := plc_ahead rs t (plc rs t - 1) (by omega)
        exact et_is (et_and (a := true) (b := false) (et_test (ev_is (ev_op (ev_var rfl) ev_c rv_I0) (congrArg V.bl (decide_eq_true (by omega))))) fun _ => et_test (ev_is (ev_op (ev_pair0 (i := ((plc rs t : Nat) : Int) - 1) (ev_var rfl) (ev_op (ev_var rfl) ev_c rv_I0) hP (by omega) (q := rs.getD (plc rs t - 1) (0, 0)) (by rw [show (((plc rs t : Nat) : Int) - 1).toNat = plc rs t - 1 by omega]; exact getD_some (by omega))) (ev_var rfl) rv_I0) (congrArg V.bl (decide_eq_false (Int.not_lt.mpr ha))))) rfl
    rw [show rs.length - (rs.length - plc rs t) = plc rs t by omega] at lp
    refine rtw_seq lp ?_
    refine rtw_ret fun H1 e1 Q q => ?_
    obtain ⟨ps, hl, hps⟩ := hP.mono e1
    have hpl := hps.len
    have hml : (ps.map V.ref).length = rs.length := by rw [List.length_map, hpl]
    have sl1 : EvL (tSl (rSlL K) (tVar 0) tNoPart (tPart (tVar 3))) [some (.ref l), some (.int t), some (.int c), some (.int (plc rs t : Nat))] H1 ((ps.take (plc rs t)).map V.ref) := by
      have z := el_sl (K := K) (σ := [some (.ref l), some (.int t), some (.int c), some (.int (plc rs t : Nat))]) (H := H1) (lo := none) (hi := some ((plc rs t : Nat) : Int)) (te := tVar 0) (tl := tNoPart) (th := tPart (tVar 3)) (ev_var rfl) eo_none (eo_some (ev_var rfl)) (sq_of hl)
      rw [sl_take _ _ (by omega), ← List.map_take] at z
      exact z
    have sl2 : EvL (tSl (rSlL K) (tVar 0) (tPart (tVar 3)) tNoPart) [some (.ref l), some (.int t), some (.int c), some (.int (plc rs t : Nat))] H1 ((ps.drop (plc rs t)).map V.ref) := by
      have z := el_sl (K := K) (σ := [some (.ref l), some (.int t), some (.int c), some (.int (plc rs t : Nat))]) (H := H1) (lo := some ((plc rs t : Nat) : Int)) (hi := none) (te := tVar 0) (tl := tPart (tVar 3)) (th := tNoPart) (ev_var rfl) (eo_some (ev_var rfl)) eo_none (sq_of hl)
      rw [sl_drop _ _ (by omega), ← List.map_drop] at z
      exact z
    refine sl1 H1 (Ex.refl _) _ fun p1 H2 _ e2 hp1 => ?_
    have tp : EvU (tTup (tCons (tVar 1) (tCons (tVar 2) tNil))) [some (.ref l), some (.int t), some (.int c), some (.int (plc rs t : Nat))] H2 [.int t, .int c] := eu_tup (ea_cons (ev_var rfl) (ea_cons (ev_var rfl) ea_nil)) (show 2 ≤ 100000 by decide)
    refine lstE_go (tconsU9 tp fun pt H3 _ e3 hpt => ?_)
    refine ⟨(by show 1 ≤ sizeLine; decide), fun p2 np2 => ?_⟩
    have e4 := Ex.new (o := HO.lst [.ref pt]) np2
    refine ⟨p1, p2, _, _, rfl, rfl, e4 _ _ (e3 _ _ hp1), upd_same, sz_of (by rw [List.length_map, List.length_take]; show _ + 1 ≤ _; omega), fun p3 np3 => ?_⟩
    have e5 := Ex.new (o := HO.lst ((ps.take (plc rs t)).map V.ref ++ [.ref pt])) np3
    have e15 := (e2.trans e3).trans (e4.trans e5)
    refine sl2 _ e15 _ fun p4 H6 _ e6 hp4 => ?_
    refine ⟨p3, p4, _, _, rfl, rfl, e6 _ _ upd_same, hp4, sz_of (by rw [List.length_append, List.length_map, List.length_take, List.length_map, List.length_drop]; show _ + 1 + _ ≤ _; omega), fun p5 np5 => ?_⟩
    have e7 := Ex.new (o := HO.lst (((ps.take (plc rs t)).map V.ref ++ [.ref pt]) ++ (ps.drop (plc rs t)).map V.ref)) np5
    have eall := (e15.trans e6).trans e7
    refine q _ _ eall ⟨p5, rfl, fresh_back ((e0.trans e1).trans (e15.trans e6)) np5, ps.take (plc rs t) ++ pt :: ps.drop (plc rs t), ?_, Prs.ins (hps.mono eall) ((e4.trans (e5.trans (e6.trans e7))) _ _ hpt)⟩
    rw [upd_same, List.map_append, List.map_cons, List.append_assoc]
    rfl
end
/-! what keeps its bounds; the book's own deeds -/
def spKeeps (T : List NdefX.NTab) (cJ cW cBr : Addr) : Sp := fun vs H Q E => ∃ (k : Int) (y l : Addr) (bd : Bd) (rs : VS), vs = [.int k, .ref y, .ref l] ∧ BdAt cJ cW bd y H ∧ PairsT H l rs ∧ VOk rs ∧ InM rs ∧ bd.ok ∧ rs.length ≤ 300 ∧ 0 ≤ k ∧ k ≤ 1000 ∧ NdefX.TabsN T H ∧
  (brkF bd rs = none → ∀ H2, LamX.ExtN H H2 → NdefX.TabsN T H2 → Q .non H2) ∧
  (∀ q, brkF bd rs = some q → ∀ H2 d p, LamX.ExtN H H2 → NdefX.TabsN T H2 → H2 d = some (.xd (fBroken k p)) → H2 p = some (.tup [.int q.1, .int q.2]) → E (.ref cBr) (some d) H2)
section
variable {P : Program} {w : World} {K : PySem.W.Frag} {mg : Str → Option Value} {base : Heap} {cJ cW cBr : Addr} {Tb : List NdefX.NTab}
theorem cal_check_keeps {fB f : Addr} {fdB fd : FuncData} (T : Blt mg) (NB : Xf K mg "Broken" cBr fB fdB ["self", "k", "stretch"]) (F_Broken : FnOk P w K mg base C8.CX0 1 fB fdB ["self", "k", "stretch"] (spBroken2 K cBr)) (c_broken : C8.Cal P w K mg base 4 "broken" (spBrk Tb cJ cW) [])
    (F : C8.Def K mg "_check_keeps" s_check_keeps f fd) (b : Binds K fd ["k", "bound", "row"] []) : CalX P w K mg base 5 "_check_keeps" (spKeeps Tb cJ cW cBr) := by
  refine calX F b sc_check_keeps (fun vs H Q E h => ?_) (fun cdv A outer s H vs Q E hr h => ?_)
  · obtain ⟨k, y, l, bd, rs, rfl, _⟩ := h
    rfl
  · obtain ⟨k, y, l, bd, rs, rfl, hb, hP, ok, im, bok, hn, k0, k1, hT, q1, q2⟩ := h
    refine ⟨_, (pss_cons (ps_set (i := 3) sc_check_keeps.nd rfl (Or.inl rfl) (C8.pe_c c_broken hr (by decide) rfl (pa_cons (pv 1) (pa_cons (pv 2) pa_nil))))
  (pss_one (ps_if (pt_cmp (pc_notN (pv 3)))
    (pss_one (ps_raise rfl (takes_of rfl rfl rfl rfl) (pmk_oex NB.ox NB.ii NB.it F_Broken (hr.mono (by decide)) NB.bi .nil C8.pass0 rfl NB.g (pa_cons (pv 0) (pa_cons (pv 3) pa_nil)))))
    pss_nil))), ?_⟩
    refine ⟨_, rfl, _, rfl, y, l, bd, rs, brkF bd rs, rfl, hb, hP, ok, bok, hn, hT, brkF_is bd rs, fun v H1 e1 t1 hv => ?_⟩
    cases hz : brkF bd rs with
    | none =>
      rw [hz] at hv
      have ev : v = .non := hv
      subst ev
      dsimp only [gName]
      exact s_when (b := false) (et_B (ev_notN (ev_var (v := .non) rfl))) (fun z => by cases z) fun _ H2 e2 => q1 hz H2 (e1.trans (Ex.extN e2)) (t1.ext e2)
    | some q =>
      rw [hz] at hv
      obtain ⟨p, ev, hp⟩ := hv
      subst ev
      dsimp only [gName]
      refine s_when (b := true) (et_B (ev_notN (ev_var (v := .ref p) rfl))) (fun _ H2 e2 => ?_) fun z => by cases z
      have lg := brkF_log im hz
      have hp2 := e2 _ _ hp
      refine ⟨_, rfl, _, rfl, (show 2 ≤ 1000 by decide), fun a na => ?_⟩
      have npa := ne_of_none hp2 na
      refine ⟨a, p, k, q.1, q.2, rfl, log_mid k0 (by omega), st_of (by rw [upd_ne npa]; exact hp2), lg.1, lg.2, upd_same, fun H10 d nd keep h1 h2 => ?_⟩
      have nd2 : H2 d = none := by
        by_cases hda : d = a
        · rw [hda]
          exact na
        · rw [upd_ne hda] at nd
          exact nd
      refine ⟨rfl, d, fBroken k p, h1, h2, nd2, ?_⟩
      have kk : ∀ x o, H2 x = some o → upd (L2.del H10 a) d (.xd (fBroken k p)) x = some o := fun x o hx => by
        have nba := ne_of_none hx na
        rw [upd_ne (ne_of_none hx nd2), L2.del_ne nba]
        exact keep x o nba (by rw [upd_ne nba]; exact hx)
      exact q2 q hz _ d p (e1.trans ((Ex.extN e2).trans (Ex.extN kk))) ((t1.ext e2).ext kk) upd_same (kk _ _ hp2)
end
/-! the methods -/
def spBInit (K : PySem.W.Frag) (cJ cW cB cN : Addr) : Sp := fun vs H Q E => ∃ x dx p xs, vs = [.ref x, .ref p] ∧ H x = some (.ins cB dx []) ∧ Sq K H p xs ∧ xs.length ≤ 1000 ∧
  ((∃ bds, GoodBs K cJ cW xs bds H ∧ ∀ lb lr H2, (∀ b o, b ≠ x → H b = some o → H2 b = some o) → H lb = none → H lr = none → BookAt cJ cW cB x lb lr bds [] H2 → Q .non H2) ∨ (BadBs K cJ cW xs H ∧ ∀ H2, Ex H H2 → E (.ref cN) none H2))
def RVis (cJ cW cB : Addr) (vs : List V) (H : Hp) (W : V → Hp → Prop) : Prop := ∃ b lb lr bds rs H0, vs = [.ref b] ∧ BookAt cJ cW cB b lb lr bds rs H ∧ Ex H0 H ∧ W = fun v H2 => ∃ p, v = .ref p ∧ H0 p = none ∧ PairsT H2 p rs
def spPut (K : PySem.W.Frag) (cJ cW cB : Addr) (cs : Nat → Addr) (T : List NdefX.NTab) : Sp := fun vs H Q E => ∃ b lb lr bds rs mv cv, vs = [.ref b, mv, cv] ∧ BookAt cJ cW cB b lb lr bds rs H ∧ (∀ bd ∈ bds, bd.ok) ∧ bds.length ≤ 4 ∧ VOk rs ∧ InM rs ∧ rs.length ≤ 40 ∧ NdefX.TabsN T H ∧ Kd K H mv ∧ Kd K H cv ∧
  ((inR mv 0 1000000000000 = false ∧ ∀ H2, Ex H H2 → E (.ref (cs 1)) none H2) ∨ ∃ t, mv = .int t ∧ inR mv 0 1000000000000 = true ∧
    ((inR cv 1 1000000000 = false ∧ ∀ H2, Ex H H2 → E (.ref (cs 2)) none H2) ∨ ∃ c, cv = .int c ∧ inR cv 1 1000000000 = true ∧
      ((rs.length = 40 ∧ ∀ H2, Ex H H2 → E (.ref (cs 5)) none H2) ∨ (rs.length < 40 ∧
        (∀ k q, fstB bds (insB rs t c) 0 = some (k, q) → ∀ H2 d p, LamX.ExtN H H2 → NdefX.TabsN T H2 → H2 d = some (.xd (fBroken (k : Nat) p)) → H2 p = some (.tup [.int q.1, .int q.2]) → E (.ref (cs 6)) (some d) H2) ∧
        (fstB bds (insB rs t c) 0 = none → ∀ H2 lr', H lr' = none → (∀ a o, a ≠ b → H a = some o → (∀ ps, o ≠ .tbl ps) → H2 a = some o) → NdefX.TabsN T H2 → BookAt cJ cW cB b lb lr' bds (insB rs t c) H2 → Q .non H2)))))
def spDrop (K : PySem.W.Frag) (cJ cW cB : Addr) (cs : Nat → Addr) : Sp := fun vs H Q E => ∃ b lb lr bds rs mv cv, vs = [.ref b, mv, cv] ∧ BookAt cJ cW cB b lb lr bds rs H ∧ rs.length ≤ 40 ∧ Kd K H mv ∧ Kd K H cv ∧
  ((inR mv 0 1000000000000 = false ∧ ∀ H2, Ex H H2 → E (.ref (cs 1)) none H2) ∨ ∃ t, mv = .int t ∧ inR mv 0 1000000000000 = true ∧
    ((inR cv 1 1000000000 = false ∧ ∀ H2, Ex H H2 → E (.ref (cs 2)) none H2) ∨ ∃ c, cv = .int c ∧ inR cv 1 1000000000 = true ∧
      (((t, c) ∉ rs ∧ ∀ H2, Ex H H2 → E (.ref (cs 4)) none H2) ∨ ((t, c) ∈ rs ∧ ∀ H2, (∀ a o, a ≠ lr → H a = some o → H2 a = some o) → BookAt cJ cW cB b lb lr bds (remI rs (t, c)) H2 → Q .non H2))))
def spChange (K : PySem.W.Frag) (cJ cW cB : Addr) (cs : Nat → Addr) (T : List NdefX.NTab) : Sp := fun vs H Q E => ∃ b lb lr bds rs kv bv, vs = [.ref b, kv, bv] ∧ BookAt cJ cW cB b lb lr bds rs H ∧ bds.length ≤ 4 ∧ VOk rs ∧ InM rs ∧ rs.length ≤ 40 ∧ NdefX.TabsN T H ∧ Kd K H kv ∧
  ((inR kv 0 ((bds.length : Int) - 1) = false ∧ ∀ H2, Ex H H2 → E (.ref (cs 3)) none H2) ∨ ∃ k : Nat, kv = .int (k : Int) ∧ k < bds.length ∧
    ((NotBd K H bv ∧ ∀ H2, Ex H H2 → E (.ref (cs 0)) none H2) ∨ ∃ y bd, bv = .ref y ∧ BdAt cJ cW bd y H ∧ bd.ok ∧
      (∀ q, brkF bd rs = some q → ∀ H2 d p, LamX.ExtN H H2 → NdefX.TabsN T H2 → H2 d = some (.xd (fBroken (k : Nat) p)) → H2 p = some (.tup [.int q.1, .int q.2]) → E (.ref (cs 6)) (some d) H2) ∧
      (brkF bd rs = none → ∀ H2, (∀ a o, a ≠ lb → H a = some o → (∀ ps, o ≠ .tbl ps) → H2 a = some o) → NdefX.TabsN T H2 → BookAt cJ cW cB b lb lr (bds.set k bd) rs H2 → Q .non H2)))
theorem fmt_e {te : TE} {n : Int} {H : Hp} {σ : L2.St} (h : Ev te σ H (.int n)) (hl : n.natAbs.log2 < 1920) : Ev (tFmt te) σ H (.str (toString n)) := fun H1 e Q q => h H1 e _ fun H2 e2 => .inr ⟨n, rfl, hl, q H2 e2⟩
theorem inR_nat {k : Nat} {n : Nat} (h : inR (.int (k : Int)) 0 ((n : Int) - 1) = true) : k < n := by
  obtain ⟨i, e, h1, h2⟩ := inR_int h
  cases e
  omega
theorem inR_t {i lo hi : Int} (h1 : lo ≤ i) (h2 : i ≤ hi) : inR (.int i) lo hi = true := by
  show (decide (lo ≤ i) && decide (i ≤ hi)) = true
  rw [decide_eq_true h1, decide_eq_true h2]
  rfl
def dPr (q : Int × Int) : PyData := .tuple [.int q.1, .int q.2]
theorem dp_rows {K : PySem.W.Frag} {H : Hp} {ps : List Addr} {rs : VS} (h : Prs H ps rs) : DpAll K H (ps.map V.ref) (rs.map dPr) := by
  induction h with
  | nil => exact .nil
  | cons h1 _ ih => exact .cons (.tup (st_of h1) (dp_ints [_, _])) ih
theorem lay_rows : ∀ rs : VS, PyData.canLayAll0 (rs.map dPr) = true
  | [] => by simp only [List.map_nil, PyData.canLayAll0]
  | q :: rs => by
    have z := lay_ints [q.1, q.2]
    simp only [List.map_cons, List.map_nil] at z
    simp only [List.map_cons, PyData.canLayAll0, dPr, PyData.canLay0, lay_rows rs, z, Bool.and_self]
theorem dep_rows : ∀ rs : VS, PyData.depthAll (rs.map dPr) ≤ 1
  | [] => by simp only [List.map_nil, PyData.depthAll]; omega
  | q :: rs => by
    have z := dep_ints [q.1, q.2]
    simp only [List.map_cons, List.map_nil] at z
    have y := dep_rows rs
    simp only [List.map_cons, PyData.depthAll, dPr, PyData.depth, z]
    omega
theorem shp_rows (rs : VS) : PySem.SeqAt.shaped (.list (rs.map dPr)) = true := shaped_list (lay_rows rs) (by have := dep_rows rs; omega)
theorem shp_pr (q : Int × Int) : PySem.SeqAt.shaped (dPr q) = true := shaped_tuple (lay_ints [q.1, q.2]) (by have := dep_ints [q.1, q.2]; simp only [List.map_cons, List.map_nil] at this; simp only [this]; omega)
theorem eqv_pr (p q : Int × Int) : PyData.eqv (dPr p) (dPr q) = decide (p = q) := by
  have z := eqv_tints [p.1, p.2] [q.1, q.2]
  simp only [List.map_cons, List.map_nil] at z
  unfold dPr
  rw [z]
  refine decide_eq_decide.mpr ⟨fun h => ?_, fun h => by rw [h]⟩
  injection h with h1 h2
  injection h2 with h2 _
  exact Prod.ext h1 h2
theorem any_rows (rs : VS) (q : Int × Int) : ((rs.map dPr).any fun z => PyData.eqv z (dPr q)) = decide (q ∈ rs) := by
  rw [List.any_map]
  by_cases h : q ∈ rs
  · rw [decide_eq_true h]
    exact List.any_eq_true.mpr ⟨q, h, by show PyData.eqv (dPr q) (dPr q) = true; rw [eqv_pr]; exact decide_eq_true rfl⟩
  · rw [decide_eq_false h]
    refine List.any_eq_false.mpr fun p hp z => ?_
    have z : PyData.eqv (dPr p) (dPr q) = true := z
    rw [eqv_pr] at z
    exact h (of_decide_eq_true z ▸ hp)
section
variable {P : Program} {w : World} {K : PySem.W.Frag} {mg : Str → Option Value} {base : Heap} {cJ cW cB cG : Addr} {cs : Nat → Addr} {Tb : List NdefX.NTab}
theorem mak_Book {f : Addr} {fd : FuncData} (k : ClBk K cB) (c_copied_bounds : CalX P w K mg base 2 "copied_bounds" (spCopied K cJ cW (cs 0))) (M : Mk K cB f) (hm : mg "Book" = some (.ref cB)) (F : C8.Fun K "__init__" "Book.__init__" s_Book_init f fd) (b : Binds K fd ["self", "bounds"] []) : MakX P w K mg base 3 "Book" cB (spBInit K cJ cW cB (cs 0)) ["self", "bounds"] := by
  obtain ⟨cl, n1, n2⟩ := k
  refine makX M hm F b sc_Book_init (fun vs H Q E h => ?_) (fun cdv A outer s H vs Q E hr h => ?_)
  · obtain ⟨x, dx, p, xs, rfl, _⟩ := h
    rfl
  · obtain ⟨x, dx, p, xs, rfl, hx, hS, hl, h⟩ := h
    refine ⟨_, (pss_cons (ps_fld (pv 0) (pe_cX c_copied_bounds own_takes hr (by decide) rfl (pa_cons (pv 1) pa_nil)) rfl)
  (pss_one (ps_fld (pv 0) (pe_lst pa_nil) rfl))), ?_⟩
    refine ⟨_, rfl, p, xs, rfl, hS, hl, ?_⟩
    rcases h with ⟨bds, gb, q⟩ | ⟨bb, q⟩
    · refine .inl ⟨bds, gb, fun lb H1 nlb e1 hlb => ?_⟩
      obtain ⟨ys, rfl, hb, h4⟩ := gb
      refine ⟨_, rfl, x, cB, dx, _, rfl, e1 _ _ hx, cl, n1, by show 0 < 1000; decide, ?_⟩
      have nxl : lb ≠ x := fun z => by rw [z, hx] at nlb; cases nlb
      refine ⟨by show 0 ≤ sizeLine; decide, fun lr hlr => ?_⟩
      have hxr : x ≠ lr := fun z => by
        rw [← z, upd_same] at hlr
        cases hlr
      have nlr1 : H1 lr = none := by
        rw [upd_ne hxr.symm] at hlr
        exact hlr
      have nlr : H lr = none := fresh_back e1 nlr1
      have nbr : lb ≠ lr := fun z => by rw [← z, hlb] at nlr1; cases nlr1
      refine ⟨_, rfl, x, cB, dx, _, rfl, (by rw [upd_ne hxr, upd_same]), cl, n2, by show 1 < 1000; decide, ?_⟩
      refine q lb lr _ (fun b o hb e => ?_) nlb nlr ⟨⟨dx, upd_same⟩, ⟨ys, ?_, ?_⟩, ⟨[], ?_, .nil⟩, nbr⟩
      · have e' := e1 _ _ e
        rw [upd_ne hb, upd_ne (fun z => by rw [z, nlr] at e; cases e), upd_ne hb]
        exact e'
      · rw [upd_ne nxl, upd_ne nbr, upd_ne nxl]
        exact hlb
      · refine paired_imp hb fun bd y z => ?_
        have z1 := (z.mono e1).updI (o := .ins cB dx (putF "_bounds" (.ref lb) [])) (e1 _ _ hx) (fun _ _ z => by cases z) (fun _ _ z => by cases z)
        have z2 := z1.upd (l := lr) (o := .lst []) fun C d fs z => by rw [upd_ne hxr.symm, nlr1] at z; cases z
        exact z2.updI (by rw [upd_ne hxr, upd_same]) (fun _ _ z => by cases z) (fun _ _ z => by cases z)
      · rw [upd_ne hxr.symm, upd_same]
        rfl
    · exact .inr ⟨bb, q⟩
theorem met_visits {f : Addr} {fd : FuncData} (k : ClBk K cB) (T : Blt mg) (me : Meth K cB "visits" f) (F : C8.Fun K "visits" "Book.visits" s_Book_visits f fd) (b : Binds K fd ["self"] []) : C8.Met P w K mg base 1 cB "visits" (spW (RVis cJ cW cB)) [] := by
  obtain ⟨cl, n1, n2⟩ := k
  refine metW cl me F b sc_Book_visits (fun vs H v h => ?_) (fun cdv A outer s H vs W E hr h => ?_)
  · obtain ⟨b, lb, lr, bds, rs, H0, rfl, _⟩ := h
    rfl
  · obtain ⟨b, lb, lr, bds, rs, H0, rfl, B, e0, rfl⟩ := h
    refine ⟨_, (pss_one (ps_ret (pe_callTy call_list_of (by rfl) T.b_list boot_list (pa_cons (pe_fld (pv 0) rfl) pa_nil)))), ?_⟩
    obtain ⟨d, hb⟩ := B.ob
    obtain ⟨ps, hl, hps⟩ := B.rows
    refine rtw_ret fun H1 e1 Q q => ?_
    refine el_list (K := K) (ev_fld (ev_var rfl) hb cl n2 rfl) (sq_of hl) H1 e1 _ fun p H2 np e2 hp => q _ H2 e2 ⟨p, rfl, fresh_back (e0.trans e1) np, ps, hp, hps.mono (e1.trans e2)⟩
theorem met_put {f : Addr} {fd : FuncData} (T : Blt mg) (G : Gcl mg cG cs cJ cW) (k : ClBk K cB) (RF : Rs K mg "Full" (cs 5)) (c_check_moment : CalX P w K mg base 2 "check_moment" (spChk K (cs 1) 0 1000000000000)) (c_check_cost : CalX P w K mg base 2 "check_cost" (spChk K (cs 2) 1 1000000000))
    (c_row_with : C8.Cal P w K mg base 1 "_row_with" (spW RRow) []) (c_check_keeps : CalX P w K mg base 5 "_check_keeps" (spKeeps Tb cJ cW (cs 6))) (me : Meth K cB "put" f) (F : C8.Fun K "put" "Book.put" s_Book_put f fd) (b : Binds K fd ["self", "moment", "cost"] []) : MetX P w K mg base 6 cB "put" (spPut K cJ cW cB cs Tb) := by
  obtain ⟨cl, n1, n2⟩ := k
  refine metX cl me F b sc_Book_put (fun vs H Q E h => ?_) (fun cdv A outer s H vs Q E hr h => ?_)
  · obtain ⟨b, lb, lr, bds, rs, mv, cv, rfl, _⟩ := h
    rfl
  · obtain ⟨b, lb, lr, bds, rs, mv, cv, rfl, B, bok, h4, ok, im, hn, hT, km, kc, h⟩ := h
    refine ⟨_, (pss_cons (ps_expr (pe_cX c_check_moment own_takes hr (by decide) rfl (pa_cons (pv 1) pa_nil)))
  (pss_cons (ps_expr (pe_cX c_check_cost own_takes hr (by decide) rfl (pa_cons (pv 2) pa_nil)))
  (pss_cons (ps_if (pt_cmpR op_ge (pe_callB call_len_seq (by rfl) T.b_len boot_len (pa_cons (pe_fld (pv 0) rfl) pa_nil)) (C8.pe_gc rfl G.g_MOST_VISITS) (nomark _))
    (pss_one (ps_raise rfl (takes_of rfl rfl rfl rfl) (SkE.pmk_own1 PySem.F.excBase_ValueError RF.xP RF.gP RF.kP (raises_own RF.bP RF.tP) rfl (pe_joined (.cons pe_str (.cons (pe_fmt (C8.pe_gc rfl G.g_MOST_VISITS)) (.cons pe_str .nil)))))))
    pss_nil)
  (pss_cons (ps_set (i := 3) sc_Book_put.nd rfl (Or.inl rfl) (C8.pe_c c_row_with hr (by decide) rfl (pa_cons (pe_fld (pv 0) rfl) (pa_cons (pv 1) (pa_cons (pv 2) pa_nil)))))
  (pss_cons (ps_for (passes_of rfl) rfl (pi_enum (by rfl) T.b_enumerate (pa_cons (pe_fld (pv 0) rfl) pa_nil)) (pg_tup rfl (pgs_cons (pg_name (i := 4) sc_Book_put.nd rfl (Or.inl rfl)) (pgs_cons (pg_name (i := 5) sc_Book_put.nd rfl (Or.inl rfl)) pgs_nil)))
    (pss_one (ps_expr (pe_cX c_check_keeps own_takes hr (by decide) rfl (pa_cons (pv 4) (pa_cons (pv 5) (pa_cons (pv 3) pa_nil)))))))
  (pss_one (ps_fld (pv 0) (pv 3) rfl))))))), ?_⟩
    refine ⟨_, rfl, mv, rfl, km, ?_⟩
    rcases h with ⟨hm, qe⟩ | ⟨t, rfl, hm, h⟩
    · exact .inr ⟨hm, qe⟩
    refine .inl ⟨hm, fun H1 e1 => ?_⟩
    refine ⟨_, rfl, cv, rfl, kc.mono e1, ?_⟩
    rcases h with ⟨hc, qe⟩ | ⟨c, rfl, hc, h⟩
    · exact .inr ⟨hc, fun H2 e2 => qe H2 (e1.trans e2)⟩
    refine .inl ⟨hc, fun H2 e2 => ?_⟩
    have e02 := e1.trans e2
    have B2 := B.mono e02
    obtain ⟨d, hb2⟩ := B2.ob
    have full : EvT (tTest (tOp (rI0 fun i j => V.bl (decide (j ≤ i))) (tCB (fun xs H Q => ∃ p ys, xs = [.ref p] ∧ (SqL K H p ys ∨ SqT K H p ys) ∧ Q (.int ys.length) H) (tCons (tFld K (tVar 0) "_row") tNil)) (tC (.int 40)))) [some (.ref b), some (.int t), some (.int c), none, none, none] H2 (decide ((40 : Int) ≤ rs.length)) :=
      et_test (ev_op (ev_lenP (ev_fld (ev_var rfl) hb2 cl n2 rfl) B2.rows) ev_c rv_I0)
    dsimp only
    rcases h with ⟨h40, qe⟩ | ⟨h40, qb, qq⟩
    · refine q_when (et_is full (decide_eq_true (by omega))) (fun _ H3 e3 => ?_) fun z => by cases z
      refine ⟨_, rfl, by decide, ?_⟩
      exact fmt_n (by decide +kernel) H3 (Ex.refl H3) _ fun H4 e4 => ⟨_, rfl, by decide +kernel, _, rfl, by decide +kernel, qe H4 ((e02.trans e3).trans e4)⟩
    refine q_when (et_is full (decide_eq_false (by omega))) (fun z => by cases z) fun _ H3 e3 => ?_
    have e03 := e02.trans e3
    have B3 := B2.mono e3
    have hb3 := e3 _ _ hb2
    refine EvW.go (evw_callW (ea_cons (ev_fld (ev_var rfl) hb3 cl n2 rfl) (ea_cons (ev_var rfl) (ea_cons (ev_var rfl) ea_nil))) fun H4 e4 => ⟨lr, rs, t, c, H3, rfl, B3.rows.mono e4, ok, by omega, e4, rfl⟩) fun v H4 e4 ⟨p, ev, np, hp⟩ => ?_
    subst ev
    have e04 := e03.trans e4
    have B4 := B3.mono e4
    have np0 : H p = none := fresh_back e03 np
    obtain ⟨ys, hlb, hys⟩ := B4.bs
    have hlen := hys.length
    have cin := (inR_int hc)
    have c1 : 1 ≤ c := by obtain ⟨i, e, h1, _⟩ := cin; cases e; exact h1
    have tin : 0 ≤ t ∧ t ≤ 1000000000000 := by obtain ⟨i, e, h1, h2⟩ := inR_int hm; cases e; exact ⟨h1, h2⟩
    have ok' := ins_ok (rs := rs) (t := t) ok c1
    have im' : InM (insB rs t c) := fun q hq => by
      rcases ins_mem hq with z | z
      · exact im q z
      · rw [z]
        exact tin
    have hn' := ins_len rs t c
    refine ⟨_, rfl, b, cB, d, _, _, rfl, e4 _ _ hb3, cl, n1, rfl, lb, _, rfl, sq_of hlb, ?_⟩
    refine for_it (walk_enum (K := K) (a := lb) (xs := ys.map V.ref)) (fun i σ' H' => ∃ o4 o5, σ' = [some (.ref b), some (.int t), some (.int c), some (.ref p), o4, o5] ∧ LamX.ExtN H4 H' ∧ NdefX.TabsN Tb H' ∧ fstB bds (insB rs t c) 0 = fstB (bds.drop i) (insB rs t c) i)
      ⟨none, none, rfl, LamX.ExtN.refl _, hT.ext e04, rfl⟩ (fun i σ' H' _ ⟨_, _, _, e, _⟩ => sq_of (exN_lst e hlb)) (fun i x σ' H' H'' hi ⟨o4, o5, hσ, e, hT', hf⟩ yy => ?_) (fun σ' H' ⟨o4, o5, hσ, e, hT', hf⟩ => ?_)
    · subst hσ
      obtain ⟨Tp, xa, xb, rfl, nT, rfl, ha, hbx⟩ := yy
      cases ha
      replace hbx : (ys.map V.ref)[i]? = some xb := hbx
      rw [List.getElem?_map] at hbx
      obtain ⟨y, hy, rfl⟩ := Option.map_eq_some_iff.mp hbx
      obtain ⟨bd, hbd, hBd⟩ := paired_at hys hy
      have eT : Ex H' (upd H' Tp (.tup [.int (i : Nat), .ref y])) := Ex.new nT
      refine ⟨Tp, [.int (i : Nat), .ref y], rfl, st_of upd_same, rfl, _, _, rfl, _, _, rfl, rfl, ?_⟩
      have e5 := e.trans (Ex.extN eT)
      have hi4 : i < bds.length := (List.getElem?_eq_some_iff.mp hbd).1
      refine ⟨_, rfl, _, rfl, _, rfl, i, y, p, bd, insB rs t c, rfl, hBd.exN e5, exN_pairs e5 hp, ok', im', bok bd (List.mem_of_getElem? hbd), by omega, by omega, by omega, hT'.ext eT, fun hz H6 e6 t6 => ?_, fun q hz H6 d' p' e6 t6 hd' hp' => ?_⟩
      · exact ⟨_, _, rfl, e5.trans e6, t6, by rw [hf, drop_at hbd, fstB_no hz]⟩
      · exact qb i q (by rw [hf, drop_at hbd, fstB_yes hz]) H6 d' p' ((Ex.extN e04).trans (e5.trans e6)) t6 hd' hp'
    · subst hσ
      rw [List.length_map, ← hlen, List.drop_length] at hf
      have hb5 : H' b = some (.ins cB d (fBook lb lr)) := e _ _ (e4 _ _ hb3) fun _ z => by cases z
      refine s_fldst (ev_var rfl) (ev_var rfl) hb5 cl n2 (by show 2 < 1000; decide) fun H6 e6 => ?_
      have e46 := e.trans (Ex.extN e6)
      have nbp : lb ≠ p := fun z => by
        rw [← z] at np
        obtain ⟨ys3, h3, _⟩ := B3.bs
        rw [np] at h3
        cases h3
      refine qq hf _ p np0 (fun a o na ha no => ?_) (tabs_ins (hT'.ext e6) (e6 _ _ hb5)) ?_
      · rw [upd_ne na]
        exact e46 a o (e04 _ _ ha) no
      · exact (B4.exN e46).row (e6 _ _ hb5) (exN_pairs e46 hp) nbp
theorem met_drop {f : Addr} {fd : FuncData} (T : Blt mg) (G : Gcl mg cG cs cJ cW) (k : ClBk K cB) (RV : Rs K mg "NoVisit" (cs 4)) (c_check_moment : CalX P w K mg base 2 "check_moment" (spChk K (cs 1) 0 1000000000000)) (c_check_cost : CalX P w K mg base 2 "check_cost" (spChk K (cs 2) 1 1000000000))
    (me : Meth K cB "drop" f) (F : C8.Fun K "drop" "Book.drop" s_Book_drop f fd) (b : Binds K fd ["self", "moment", "cost"] []) : MetX P w K mg base 3 cB "drop" (spDrop K cJ cW cB cs) := by
  obtain ⟨cl, n1, n2⟩ := k
  refine metX cl me F b sc_Book_drop (fun vs H Q E h => ?_) (fun cdv A outer s H vs Q E hr h => ?_)
  · obtain ⟨b, lb, lr, bds, rs, mv, cv, rfl, _⟩ := h
    rfl
  · obtain ⟨b, lb, lr, bds, rs, mv, cv, rfl, B, hn, km, kc, h⟩ := h
    refine ⟨_, (pss_cons (ps_expr (pe_cX c_check_moment own_takes hr (by decide) rfl (pa_cons (pv 1) pa_nil)))
  (pss_cons (ps_expr (pe_cX c_check_cost own_takes hr (by decide) rfl (pa_cons (pv 2) pa_nil)))
  (pss_cons (ps_if (pt_cmpR (op_notInD hr.units65) (pe_tup (pa_cons (pv 1) (pa_cons (pv 2) pa_nil))) (pe_fld (pv 0) rfl) (by rfl))
    (pss_one (ps_raise rfl (takes_of rfl rfl rfl rfl) (SkE.pmk_own1 PySem.F.excBase_ValueError RV.xP RV.gP RV.kP (raises_own RV.bP RV.tP) rfl (pe_joined (.cons pe_str (.cons (pe_fmt (pv 1)) (.cons pe_str (.cons (pe_fmt (pv 2)) .nil))))))))
    pss_nil)
  (pss_one (ps_expr (pe_bm PySem.F.plainAttrs_list PySem.F.slot_list_remove PySem.F.type_list_remove (mt_removeD hr.units65) (pe_fld (pv 0) rfl) (pa_cons (pe_tup (pa_cons (pv 1) (pa_cons (pv 2) pa_nil))) pa_nil))))))), ?_⟩
    refine ⟨_, rfl, mv, rfl, km, ?_⟩
    rcases h with ⟨hm, qe⟩ | ⟨t, rfl, hm, h⟩
    · exact .inr ⟨hm, qe⟩
    refine .inl ⟨hm, fun H1 e1 => ?_⟩
    refine ⟨_, rfl, cv, rfl, kc.mono e1, ?_⟩
    rcases h with ⟨hc, qe⟩ | ⟨c, rfl, hc, h⟩
    · exact .inr ⟨hc, fun H2 e2 => qe H2 (e1.trans e2)⟩
    refine .inl ⟨hc, fun H2 e2 => ?_⟩
    have e02 := e1.trans e2
    have B2 := B.mono e02
    obtain ⟨d, hb2⟩ := B2.ob
    obtain ⟨ps, hl2, hps2⟩ := B2.rows
    have c1 : 1 ≤ c ∧ c ≤ 1000000000 := by obtain ⟨i, e, h1, h2⟩ := inR_int hc; cases e; exact ⟨h1, h2⟩
    have tin : 0 ≤ t ∧ t ≤ 1000000000000 := by obtain ⟨i, e, h1, h2⟩ := inR_int hm; cases e; exact ⟨h1, h2⟩
    have tst : EvT (tTest (tOp (rNotInD K) (tTup (tCons (tVar 1) (tCons (tVar 2) tNil))) (tFld K (tVar 0) "_row"))) [some (.ref b), some (.int t), some (.int c)] H2 (!decide ((t, c) ∈ rs)) :=
      et_test (ev_opU1 (xs := [.int t, .int c]) (eu_tup (ea_cons (ev_var rfl) (ea_cons (ev_var rfl) ea_nil)) (show 2 ≤ 100000 by decide)) (ev_fld (ev_var rfl) hb2 cl n2 rfl) fun p H3 hp e3 H4 e4 Q q =>
        ⟨dPr (t, c), rs.map dPr, .tup (st_of (e4 _ _ hp)) (dp_ints [t, c]), .lst (sq_of ((e3.trans e4) _ _ hl2)) (dp_rows (hps2.mono (e3.trans e4))), shp_pr _, shp_rows rs, by rw [any_rows]; exact q H4 (Ex.refl _)⟩)
    dsimp only
    rcases h with ⟨hin, qe⟩ | ⟨hin, qq⟩
    · refine q_when (et_is tst (by rw [decide_eq_false hin]; try rfl)) (fun _ H3 e3 => ?_) fun z => by cases z
      refine ⟨_, rfl, by decide +kernel, _, rfl, Or.inr ⟨t, rfl, log_mid tin.1 tin.2, _, rfl, ?_, _, rfl, ?_, _, rfl, Or.inr ⟨c, rfl, log_mid (by omega) (by omega), _, rfl, ?_, qe H3 (e02.trans e3)⟩⟩⟩
      · exact Nat.le_trans (app_le (a := 1000) (by decide +kernel) (num_le (log_mid tin.1 tin.2))) (by decide)
      · exact Nat.le_trans (app_le (b := 1000) (app_le (a := 1000) (by decide +kernel) (num_le (log_mid tin.1 tin.2))) (by decide +kernel)) (by decide)
      · exact Nat.le_trans (app_le (app_le (b := 1000) (app_le (a := 1000) (by decide +kernel) (num_le (log_mid tin.1 tin.2))) (by decide +kernel)) (num_le (log_mid (by omega) (by omega)))) (by decide)
    · refine q_when (et_is tst (by rw [decide_eq_true hin]; try rfl)) (fun z => by cases z) fun _ H3 e3 => ?_
      have hb3 := e3 _ _ hb2
      have hl3 := e3 _ _ hl2
      refine ⟨_, rfl, b, cB, d, _, _, rfl, hb3, cl, n2, rfl, Or.inl ⟨rfl, _, sq_of hl3⟩, ?_⟩
      refine ⟨_, rfl, _, rfl, (by show 2 ≤ sizeLine; decide), fun pt npt => ?_⟩
      have e5 := Ex.new (o := HO.tup [.int t, .int c]) npt
      have e25 := e3.trans e5
      have hps5 := hps2.mono e25
      have hat := fnd_at rs (t, c) hin
      refine ⟨lr, ps.map V.ref, .ref pt, dPr (t, c), rs.map dPr, fndI rs (t, c), dPr (t, c), rfl, rfl, e25 _ _ hl2, dp_rows hps5, .tup (st_of upd_same) (dp_ints [t, c]), shp_rows rs, shp_pr _, by rw [List.getElem?_map, hat]; rfl, by rw [eqv_pr]; exact decide_eq_true rfl, fun m z' hm hz' => ?_, ?_⟩
      · rw [List.getElem?_map] at hz'
        obtain ⟨p, hp, rfl⟩ := Option.map_eq_some_iff.mp hz'
        rw [eqv_pr]
        exact decide_eq_false (fnd_no rs (t, c) m p hm hp)
      · have B5 := B2.mono e25
        have hl5 := e25 _ _ hl2
        refine qq _ (fun a o na ha => ?_) ⟨?_, ?_, ⟨ps.eraseIdx (fndI rs (t, c)), ?_, ?_⟩, B.ne⟩
        · rw [upd_ne na]
          exact e25 _ _ (e02 _ _ ha)
        · refine ⟨d, ?_⟩
          rw [upd_ne (fun z => by rw [← z, e25 _ _ hb2] at hl5; cases hl5)]
          exact e25 _ _ hb2
        · obtain ⟨ys, hy1, hy2⟩ := B5.bs
          exact ⟨ys, by rw [upd_ne B.ne]; exact hy1, paired_imp hy2 fun _ _ z => z.upd fun C dx fs z => by rw [hl5] at z; cases z⟩
        · rw [upd_same]
          congr 2
          exact map_era ps _
        · exact Prs.upd (prs_era hps5 _) fun xs z => by rw [hl5] at z; cases z
theorem met_change {f : Addr} {fd : FuncData} (T : Blt mg) (G : Gcl mg cG cs cJ cW) (k : ClBk K cB) (RP : Rs K mg "NoPlace" (cs 3)) (c_is_within : C8.Cal P w K mg base 1 "is_within" (spF (RWithin K)) []) (c_check_bound : CalX P w K mg base 1 "check_bound" (spCheckBound K cJ cW (cs 0))) (c_check_keeps : CalX P w K mg base 5 "_check_keeps" (spKeeps Tb cJ cW (cs 6)))
    (me : Meth K cB "change" f) (F : C8.Fun K "change" "Book.change" s_Book_change f fd) (b : Binds K fd ["self", "k", "bound"] []) : MetX P w K mg base 6 cB "change" (spChange K cJ cW cB cs Tb) := by
  obtain ⟨cl, n1, n2⟩ := k
  refine metX cl me F b sc_Book_change (fun vs H Q E h => ?_) (fun cdv A outer s H vs Q E hr h => ?_)
  · obtain ⟨b, lb, lr, bds, rs, kv, bv, rfl, _⟩ := h
    rfl
  · obtain ⟨b, lb, lr, bds, rs, kv, bv, rfl, B, h4, ok, im, hn, hT, kk, h⟩ := h
    refine ⟨_, (pss_cons (ps_if (pt_not (pt_val (C8.pe_c c_is_within hr (by decide) rfl (pa_cons (pv 1) (pa_cons pe_int (pa_cons (pe_op op_sub (pe_callB call_len_seq (by rfl) T.b_len boot_len (pa_cons (pe_fld (pv 0) rfl) pa_nil)) pe_int) pa_nil))))))
    (pss_one (ps_raise rfl (takes_of rfl rfl rfl rfl) (SkE.pmk_own1 PySem.F.excBase_ValueError RP.xP RP.gP RP.kP (raises_own RP.bP RP.tP) rfl (pe_joined (.cons pe_str (.cons (pe_fmt (pe_callB call_len_seq (by rfl) T.b_len boot_len (pa_cons (pe_fld (pv 0) rfl) pa_nil))) .nil))))))
    pss_nil)
  (pss_cons (ps_expr (pe_cX c_check_bound own_takes hr (by decide) rfl (pa_cons (pv 2) pa_nil)))
  (pss_cons (ps_expr (pe_cX c_check_keeps own_takes hr (by decide) rfl (pa_cons (pv 1) (pa_cons (pv 2) (pa_cons (pe_fld (pv 0) rfl) pa_nil)))))
  (pss_one (ps_asg (pv 2) (pg_sub (pe_fld (pv 0) rfl) (pv 1) set_list (fun _ => rfl))))))), ?_⟩
    obtain ⟨d, hb⟩ := B.ob
    obtain ⟨ys, hlb, hys⟩ := B.bs
    have hlen := hys.length
    have hml : (ys.map V.ref).length = bds.length := by rw [List.length_map]; exact hlen.symm
    have lenE : ∀ {H1 : Hp}, Ex H H1 → Ev (tCB (fun xs H Q => ∃ p ys, xs = [.ref p] ∧ (SqL K H p ys ∨ SqT K H p ys) ∧ Q (.int ys.length) H) (tCons (tFld K (tVar 0) "_bounds") tNil)) [some (.ref b), some kv, some bv] H1 (.int (bds.length : Int)) := fun e => ev_is (ev_lenL (K := K) (ev_fld (ev_var rfl) (e _ _ hb) cl n1 rfl) (sq_of (e _ _ hlb))) (by rw [hml])
    have tst : EvT (tNot (tB (tCall (spF (RWithin K)) [] C8.E0 (tCons (tVar 1) (tCons (tC (.int 0)) (tCons (tOp (rI0 fun i j => V.int (i - j)) (tCB (fun xs H Q => ∃ p ys, xs = [.ref p] ∧ (SqL K H p ys ∨ SqT K H p ys) ∧ Q (.int ys.length) H) (tCons (tFld K (tVar 0) "_bounds") tNil)) (tC (.int 1))) tNil)))))) [some (.ref b), some kv, some bv] H (!inR kv 0 ((bds.length : Int) - 1)) :=
      et_not (et_B (ev_callF (ea_cons (ev_var rfl) (ea_cons ev_c (ea_cons (ev_op (lenE (Ex.refl H)) ev_c rv_I0) ea_nil))) (rWithinK kk)))
    rcases h with ⟨hk, qe⟩ | ⟨k, rfl, hk, h⟩
    · refine q_when (et_is tst (by rw [hk]; try rfl)) (fun _ H1 e1 => ?_) fun z => by cases z
      refine ⟨_, rfl, by decide +kernel, ?_⟩
      have lg : (bds.length : Int).natAbs.log2 < 1920 := log_mid (by omega) (by omega)
      refine fmt_e (lenE e1) lg H1 (Ex.refl _) _ fun H2 e2 => ⟨_, rfl, ?_, qe H2 (e1.trans e2)⟩
      exact Nat.le_trans (app_le (a := 1000) (by decide +kernel) (num_le lg)) (by decide)
    refine q_when (et_is tst (by rw [inR_t (by omega) (by omega)]; try rfl)) (fun z => by cases z) fun _ H1 e1 => ?_
    refine ⟨_, rfl, bv, rfl, ?_⟩
    rcases h with ⟨nb, qe⟩ | ⟨y, bd, rfl, hy, yok, qb, qq⟩
    · exact .inr ⟨nb.mono e1, fun H2 e2 => qe H2 (e1.trans e2)⟩
    refine .inl ⟨⟨bd, y, rfl, hy.mono e1⟩, fun H2 e2 => ?_⟩
    have e02 := e1.trans e2
    have B2 := B.mono e02
    refine ⟨_, rfl, _, rfl, _, rfl, b, cB, d, _, _, rfl, e02 _ _ hb, cl, n2, rfl, k, y, lr, bd, rs, rfl, hy.mono e02, B2.rows, ok, im, yok, by omega, by omega, by omega, hT.ext e02, fun hz H3 e3 t3 => ?_, fun q hz H3 d' p' e3 t3 hd' hp' => qb q hz H3 d' p' ((Ex.extN e02).trans e3) t3 hd' hp'⟩
    have B3 := B2.exN e3
    have hlb3 := exN_lst e3 (e02 _ _ hlb)
    have hb3 : H3 b = some (.ins cB d (fBook lb lr)) := e3 _ _ (e02 _ _ hb) fun _ z => by cases z
    refine s_setL (j := k) hlb3 (ev_var rfl) (ev_fld (ev_var rfl) hb3 cl n1 rfl) (ev_var rfl) (by omega) fun H4 e4 => ?_
    have e24 := e3.trans (Ex.extN e4)
    have hlb4 := e4 _ _ hlb3
    refine qq hz _ (fun a o na ha no => ?_) (tabs_lst (t3.ext e4) hlb4) ⟨⟨d, ?_⟩, ⟨ys.set k y, ?_, ?_⟩, ?_, B.ne⟩
    · rw [upd_ne na]
      exact e24 a o (e02 _ _ ha) no
    · rw [upd_ne (fun z => by rw [← z, e4 _ _ hb3] at hlb4; cases hlb4)]
      exact e4 _ _ hb3
    · rw [upd_same, List.map_set]
    · have p1 : Paired (fun bd' y' => BdAt cJ cW bd' y' (upd H4 lb (.lst ((ys.map V.ref).set k (.ref y))))) bds ys := paired_imp hys fun _ _ z => ((z.mono e02).exN e24).upd fun C dx fs z => by rw [hlb4] at z; cases z
      exact paired_set p1 (((hy.mono e02).exN e24).upd fun C dx fs z => by rw [hlb4] at z; cases z) k
    · obtain ⟨ps, h1, h2⟩ := (B3.mono e4).rows
      exact ⟨ps, by rw [upd_ne B.ne.symm]; exact h1, h2.upd fun xs z => by rw [hlb4] at z; cases z⟩
end
/-! a wait, some time later -/
theorem waitAllV_nn {t c : Int} : ∀ {bvs : List (Bd × VS)} {acc w : Int}, waitAllV t c bvs acc = some w → acc ≤ w
  | [], acc, w, h => by
    cases h
    exact Int.le_refl _
  | q :: r, acc, w, h => by
    rw [waitAllV] at h
    cases hd : dueV q.1 q.2 t c with
    | none =>
      rw [hd] at h
      cases h
    | some n =>
      rw [hd] at h
      have z := waitAllV_nn (show waitAllV t c r (max acc n) = some w from h)
      omega
theorem lev_shift {f l t δ : Int} {m : Option Int} (hf : 0 ≤ f) (hd : 0 ≤ δ) : levV f l m (t + δ) = max 0 (levV f l m t - f * δ) := by
  have h0 : 0 ≤ f * δ := Int.mul_nonneg hf hd
  unfold levV
  by_cases h : l = 0
  · rw [if_pos h, if_pos h]
    omega
  · rw [if_neg h, if_neg h]
    have e : f * (t + δ - m.getD 0) = f * (t - m.getD 0) + f * δ := by
      rw [← Int.mul_add]
      congr 1
      omega
    rw [e]
    omega
theorem cd_le {f e δ : Int} (hf : 0 < f) (h : e ≤ f * δ) : (e + f - 1) / f ≤ δ := by
  have : (e + f - 1) / f < δ + 1 := Int.ediv_lt_of_lt_mul hf (by rw [Int.mul_comm, Int.mul_add]; omega)
  omega
theorem waitJ_shift {s f l t c δ : Int} {m : Option Int} (hf : 0 ≤ f) (hd : 0 ≤ δ) : waitJ s f l m (t + δ) c = (waitJ s f l m t c).map fun w => max 0 (w - δ) := by
  have l0 := lev_nn f l m t
  have ls := lev_shift (l := l) (t := t) (m := m) hf hd
  have h0 : 0 ≤ f * δ := Int.mul_nonneg hf hd
  unfold waitJ
  rw [ls]
  generalize levV f l m t = L at l0 ⊢
  by_cases h1 : c > s
  · rw [if_pos h1, if_pos h1]
    rfl
  rw [if_neg h1, if_neg h1]
  by_cases h2 : L + c - s ≤ 0
  · rw [if_pos h2, if_pos (by omega)]
    show some 0 = some (max 0 (0 - δ))
    congr 1
    omega
  rw [if_neg h2]
  by_cases h3 : f = 0
  · subst h3
    rw [Int.zero_mul, Int.sub_zero, if_neg (by omega), if_pos rfl, if_pos rfl]
    rfl
  simp only [if_neg h3]
  have fp : 0 < f := by omega
  show _ = some (max 0 ((L + c - s + f - 1) / f - δ))
  by_cases h4 : max 0 (L - f * δ) + c - s ≤ 0
  · rw [if_pos h4]
    have := cd_le (e := L + c - s) (δ := δ) fp (by omega)
    congr 1
    omega
  · rw [if_neg h4]
    have e : max 0 (L - f * δ) = L - f * δ := by omega
    have e2 : max 0 (L - f * δ) + c - s + f - 1 = (L + c - s + f - 1) + f * (-δ) := by
      rw [e, Int.mul_neg]
      omega
    have e3 : (L + c - s + f - 1 + f * (-δ)) / f = (L + c - s + f - 1) / f + (-δ) := Int.add_mul_ediv_left _ _ (by omega)
    rw [e2, e3]
    have := cd_up fp (show 0 < max 0 (L - f * δ) + c - s by omega)
    rw [e2, e3] at this
    congr 1
    omega
theorem jrel_ex {f : Int} {vs : List (Int × Int)} (h : VOk vs) : ∃ l m, JRel f vs l m := by
  have go : ∀ n, n ≤ vs.length → ∃ l m, JRel f (vs.take n) l m := fun n => by
    induction n with
    | zero => exact fun _ => ⟨0, none, by rw [List.take_zero]; exact jrel_nil f⟩
    | succ n ih =>
      intro hn
      obtain ⟨l, m, r⟩ := ih (by omega)
      have e : vs.take (n + 1) = vs.take n ++ [((vs.getD n (0, 0)).1, (vs.getD n (0, 0)).2)] := by
        rw [List.take_add_one, getD_some (show n < vs.length by omega)]
        rfl
      rw [e]
      refine ⟨_, _, jrel_take r (fun q hq => ?_) (h.cost n (by omega))⟩
      obtain ⟨i, hi⟩ := List.getElem?_of_mem hq
      have hin : i < n := by
        have := (List.getElem?_eq_some_iff.mp hi).1
        rw [List.length_take] at this
        omega
      rw [List.getElem?_take, if_pos hin, getD_some (show i < vs.length by omega)] at hi
      cases hi
      exact h.rise i n (by omega) (by omega)
  obtain ⟨l, m, r⟩ := go vs.length (Nat.le_refl _)
  rw [List.take_length] at r
  exact ⟨l, m, r⟩
theorem due_shift {bd : Bd} {vs : List (Int × Int)} {t c δ : Int} (ok : bd.ok) (h : VOk vs) (hu : Upto vs t) (hd : 0 ≤ δ) : dueV bd vs (t + δ) c = (dueV bd vs t c).map fun w => max 0 (w - δ) := by
  have hu2 : Upto vs (t + δ) := upto_le hu (by omega)
  cases bd with
  | jar s f =>
    obtain ⟨l, m, r⟩ := jrel_ex (f := f) h
    rw [due_jar r hu2 ok.2.2.1, due_jar r hu ok.2.2.1]
    exact waitJ_shift ok.2.2.1 hd
  | win m s =>
    by_cases hc : c > m
    · unfold dueV
      rw [if_pos (show c > (Bd.win m s).cap from hc), if_pos (show c > (Bd.win m s).cap from hc)]
      rfl
    · obtain ⟨F, e, f0, f1, f2⟩ := due_win m s vs t c hc
      obtain ⟨G, e', g0, g1, g2⟩ := due_win m s vs (t + δ) c hc
      rw [e, e']
      show some G = some (max 0 (F - δ))
      congr 1
      rcases g2 with g2 | ⟨i, i1, i2, i3⟩
      · rcases f2 with f2 | ⟨j, j1, j2, j3⟩
        · omega
        · have := g1 j j1 j2
          omega
      · have a := f1 i i1 i2
        rcases f2 with f2 | ⟨j, j1, j2, j3⟩
        · omega
        · have := g1 j j1 j2
          omega
theorem due_nn {bd : Bd} {vs : List (Int × Int)} {t c w : Int} (ok : bd.ok) (h : VOk vs) (hu : Upto vs t) (e : dueV bd vs t c = some w) : 0 ≤ w := by
  cases bd with
  | jar s f =>
    obtain ⟨l, m, r⟩ := jrel_ex (f := f) h
    rw [due_jar r hu ok.2.2.1] at e
    exact wait_nn ok.2.2.1 e
  | win m s =>
    by_cases hc : c > m
    · unfold dueV at e
      rw [if_pos (show c > (Bd.win m s).cap from hc)] at e
      cases e
    · obtain ⟨F, e', f0, _⟩ := due_win m s vs t c hc
      rw [e'] at e
      cases e
      exact f0
theorem waitAll_shift {t c δ : Int} (hd : 0 ≤ δ) : ∀ {l : List (Bd × VS)} {acc : Int}, Fit l t → waitAllV (t + δ) c l (max 0 (acc - δ)) = (waitAllV t c l acc).map fun w => max 0 (w - δ)
  | [], acc, _ => rfl
  | q :: r, acc, ft => by
    obtain ⟨ok, vo, _, up⟩ := ft q List.mem_cons_self
    rw [waitAllV, waitAllV, due_shift ok vo up hd]
    cases e : dueV q.1 q.2 t c with
    | none => rfl
    | some n =>
      show waitAllV (t + δ) c r (max (max 0 (acc - δ)) (max 0 (n - δ))) = (waitAllV t c r (max acc n)).map _
      rw [show max (max 0 (acc - δ)) (max 0 (n - δ)) = max 0 (max acc n - δ) by omega]
      exact waitAll_shift hd fun z hz => ft z (List.mem_cons_of_mem _ hz)
theorem waitAll_le {t c : Int} : ∀ {l : List (Bd × VS)} {acc w : Int}, waitAllV t c l acc = some w → ∀ q ∈ l, ∃ d, dueV q.1 q.2 t c = some d ∧ d ≤ w
  | [], _, _, _, _, hq => by cases hq
  | q :: r, acc, w, h, q', hq => by
    rw [waitAllV] at h
    cases e : dueV q.1 q.2 t c with
    | none =>
      rw [e] at h
      cases h
    | some n =>
      rw [e] at h
      have z := waitAllV_nn (show waitAllV t c r (max acc n) = some w from h)
      rcases List.mem_cons.mp hq with rfl | hq
      · exact ⟨n, e, by omega⟩
      · exact waitAll_le (show waitAllV t c r (max acc n) = some w from h) q' hq
theorem waitAll_zero {t c : Int} : ∀ {l : List (Bd × VS)}, (∀ q ∈ l, dueV q.1 q.2 t c = some 0) → waitAllV t c l 0 = some 0
  | [], _ => rfl
  | q :: r, h => by
    rw [waitAllV, h q List.mem_cons_self]
    exact waitAll_zero fun z hz => h z (List.mem_cons_of_mem _ hz)
/-! stretches by their moments -/
def sumM : VS → Int → Int → Int
  | [], _, _ => 0
  | q :: r, a, b => (if a ≤ q.1 ∧ q.1 ≤ b then q.2 else 0) + sumM r a b
def CoP (rs : VS) : Prop := ∀ q ∈ rs, 0 ≤ q.2
theorem cop_of {rs : VS} (h : VOk rs) : CoP rs := fun q hq => by
  obtain ⟨i, hi, e⟩ := List.getElem_of_mem hq
  have z := h.cost i hi
  rw [List.getD_eq_getElem?_getD, List.getElem?_eq_getElem hi, e] at z
  have : (1 : Int) ≤ q.2 := z
  omega
theorem sumM_app : ∀ (xs ys : VS) (a b : Int), sumM (xs ++ ys) a b = sumM xs a b + sumM ys a b
  | [], ys, a, b => by rw [List.nil_append, sumM, Int.zero_add]
  | q :: r, ys, a, b => by rw [List.cons_append, sumM, sumM, sumM_app r ys a b, Int.add_assoc]
theorem sumM_ins (rs : VS) (t c a b : Int) : sumM (insB rs t c) a b = sumM rs a b + if a ≤ t ∧ t ≤ b then c else 0 := by
  unfold insB
  have e : sumM rs a b = sumM (rs.take (plc rs t)) a b + sumM (rs.drop (plc rs t)) a b := by rw [← sumM_app, List.take_append_drop]
  rw [sumM_app, sumM, e]
  show _ + ((if a ≤ t ∧ t ≤ b then c else 0) + _) = _
  omega
theorem sumM_nn : ∀ {rs : VS} (a b : Int), CoP rs → 0 ≤ sumM rs a b
  | [], _, _, _ => Int.le_refl _
  | q :: r, a, b, h => by
    have z := sumM_nn (rs := r) a b fun x hx => h x (List.mem_cons_of_mem _ hx)
    have y := h q List.mem_cons_self
    rw [sumM]
    split <;> omega
theorem sumM_mono : ∀ {rs : VS} {a b a' b' : Int}, CoP rs → a' ≤ a → b ≤ b' → sumM rs a b ≤ sumM rs a' b'
  | [], _, _, _, _, _, _, _ => Int.le_refl _
  | q :: r, a, b, a', b', h, h1, h2 => by
    have z := sumM_mono (rs := r) (fun x hx => h x (List.mem_cons_of_mem _ hx)) h1 h2
    have y := h q List.mem_cons_self
    rw [sumM, sumM]
    by_cases p : a ≤ q.1 ∧ q.1 ≤ b
    · rw [if_pos p, if_pos ⟨by omega, by omega⟩]
      omega
    · rw [if_neg p]
      split <;> omega
theorem sumM_none : ∀ {rs : VS} {a b : Int}, (∀ q ∈ rs, ¬ (a ≤ q.1 ∧ q.1 ≤ b)) → sumM rs a b = 0
  | [], _, _, _ => rfl
  | q :: r, a, b, h => by rw [sumM, if_neg (h q List.mem_cons_self), sumM_none fun x hx => h x (List.mem_cons_of_mem _ hx), Int.zero_add]
theorem sumM_upto : ∀ {rs : VS} {a b t : Int}, (∀ q ∈ rs, q.1 ≤ t) → CoP rs → sumM rs a b ≤ sumM rs a t
  | [], _, _, _, _, _ => Int.le_refl _
  | q :: r, a, b, t, h, hc => by
    have z := sumM_upto (rs := r) (a := a) (b := b) (fun x hx => h x (List.mem_cons_of_mem _ hx)) fun x hx => hc x (List.mem_cons_of_mem _ hx)
    have y := hc q List.mem_cons_self
    have w := h q List.mem_cons_self
    rw [sumM, sumM]
    by_cases p : a ≤ q.1
    · have e2 : (if a ≤ q.1 ∧ q.1 ≤ t then q.2 else 0) = q.2 := if_pos ⟨p, w⟩
      rw [e2]
      split <;> omega
    · have e1 : (if a ≤ q.1 ∧ q.1 ≤ b then q.2 else 0) = 0 := if_neg fun z => p z.1
      have e2 : (if a ≤ q.1 ∧ q.1 ≤ t then q.2 else 0) = 0 := if_neg fun z => p z.1
      rw [e1, e2]
      omega
/-- the same, by places -/
def sumI (rs : VS) (a b : Int) : Nat → Int
  | 0 => 0
  | n + 1 => sumI rs a b n + if a ≤ mom rs n ∧ mom rs n ≤ b then cst rs n else 0
theorem sumI_cons (q : Int × Int) (r : VS) (a b : Int) : ∀ n, sumI (q :: r) a b (n + 1) = (if a ≤ q.1 ∧ q.1 ≤ b then q.2 else 0) + sumI r a b n
  | 0 => by
    show (0 : Int) + (if a ≤ q.1 ∧ q.1 ≤ b then q.2 else 0) = _ + 0
    omega
  | n + 1 => by
    rw [sumI, sumI_cons q r a b n, sumI]
    show _ + (if a ≤ mom r n ∧ mom r n ≤ b then cst r n else 0) = _
    omega
theorem sumM_I : ∀ (rs : VS) (a b : Int), sumM rs a b = sumI rs a b rs.length
  | [], _, _ => rfl
  | q :: r, a, b => by rw [sumM, List.length_cons, sumI_cons, sumM_I r a b]
theorem sumI_up {rs : VS} (h : VOk rs) (a b : Int) {i : Nat} : ∀ {j : Nat}, i ≤ j → j ≤ rs.length → sumI rs a b i ≤ sumI rs a b j
  | 0, hij, _ => by
    obtain rfl : i = 0 := by omega
    exact Int.le_refl _
  | j + 1, hij, hj => by
    by_cases e : i = j + 1
    · rw [e]
      exact Int.le_refl _
    · have z := sumI_up h a b (i := i) (j := j) (by omega) (by omega)
      have c : 1 ≤ cst rs j := h.cost j (by omega)
      rw [sumI]
      split <;> omega
theorem sumM_ge {rs : VS} (h : VOk rs) {s e : Nat} {a b : Int} (hs : s ≤ e) (he : e < rs.length) (ha : a ≤ mom rs s) (hb : mom rs e ≤ b) : tot rs (e + 1) - tot rs s ≤ sumM rs a b := by
  have go : ∀ d, s + d ≤ e + 1 → tot rs (s + d) - tot rs s ≤ sumI rs a b (s + d) - sumI rs a b s := fun d => by
    induction d with
    | zero => intro _; rw [Nat.add_zero]; omega
    | succ d ih =>
      intro hd
      have z := ih (by omega)
      have m1 := h.mono s (s + d) (by omega) (by omega)
      have m2 := h.mono (s + d) e (by omega) (by omega)
      rw [show s + (d + 1) = s + d + 1 by omega, sumI, if_pos ⟨by omega, by omega⟩]
      show tot rs (s + d) + cst rs (s + d) - tot rs s ≤ _
      omega
  have z := go (e + 1 - s) (by omega)
  rw [show s + (e + 1 - s) = e + 1 by omega] at z
  have z0 := sumI_up h a b (i := 0) (j := s) (Nat.zero_le _) (by omega)
  have z1 := sumI_up h a b (i := e + 1) (j := rs.length) (by omega) (Nat.le_refl _)
  have z2 : sumI rs a b 0 = 0 := rfl
  rw [sumM_I]
  omega
theorem sumM_at {rs : VS} (h : VOk rs) (a b : Int) : sumM rs a b = 0 ∨ ∃ s e, s ≤ e ∧ e < rs.length ∧ a ≤ mom rs s ∧ mom rs s ≤ b ∧ mom rs e ≤ b ∧ sumM rs a b ≤ tot rs (e + 1) - tot rs s := by
  have go : ∀ n, n ≤ rs.length → sumI rs a b n = 0 ∨ ∃ s e, s ≤ e ∧ e < n ∧ a ≤ mom rs s ∧ mom rs s ≤ b ∧ mom rs e ≤ b ∧ sumI rs a b n ≤ tot rs (e + 1) - tot rs s := fun n => by
    induction n with
    | zero => intro _; exact .inl rfl
    | succ n ih =>
      intro hn
      rw [sumI]
      by_cases p : a ≤ mom rs n ∧ mom rs n ≤ b
      · rw [if_pos p]
        rcases ih (by omega) with z | ⟨s, e, h1, h2, h3, h3', h4, h5⟩
        · exact .inr ⟨n, n, Nat.le_refl _, Nat.lt_succ_self _, p.1, p.2, p.2, by
            show _ ≤ tot rs n + cst rs n - tot rs n
            omega⟩
        · have t := tot_le h (i := e + 1) (j := n) (by omega) (by omega)
          exact .inr ⟨s, n, by omega, Nat.lt_succ_self _, h3, h3', p.2, by
            show _ ≤ tot rs n + cst rs n - tot rs s
            omega⟩
      · rw [if_neg p, Int.add_zero]
        rcases ih (by omega) with z | ⟨s, e, h1, h2, h3, h3', h4, h5⟩
        · exact .inl z
        · exact .inr ⟨s, e, h1, by omega, h3, h3', h4, h5⟩
  rw [sumM_I]
  exact go _ (Nat.le_refl _)
theorem room_le {bd : Bd} (ok : bd.ok) {a b a' b' r : Int} (h1 : a ≤ a') (h2 : a' ≤ b') (h3 : b' ≤ b) (h : roomB bd a b = some r) : ∃ r', roomB bd a' b' = some r' ∧ r' ≤ r := by
  cases bd with
  | jar s f =>
    have f0 : 0 ≤ f := ok.2.2.1
    injection h with h
    refine ⟨s + f * (b' - a'), rfl, ?_⟩
    have := Int.mul_le_mul_of_nonneg_left (show b' - a' ≤ b - a by omega) f0
    omega
  | win m p =>
    unfold roomB at h ⊢
    by_cases q : b - a < p
    · simp only [if_pos q] at h
      injection h with h
      refine ⟨m, ?_, by omega⟩
      show (if b' - a' < p then some m else none) = some m
      rw [if_pos (by omega)]
    · simp only [if_neg q] at h
      cases h
theorem room_pos {bd : Bd} (ok : bd.ok) {a b r : Int} (h1 : a ≤ b) (h : roomB bd a b = some r) : bd.cap ≤ r ∧ 1 ≤ r := by
  cases bd with
  | jar s f =>
    have f0 : 0 ≤ f := ok.2.2.1
    have s1 : 1 ≤ s := ok.1
    injection h with h
    have := Int.mul_nonneg f0 (show 0 ≤ b - a by omega)
    exact ⟨by show s ≤ r; omega, by omega⟩
  | win m p =>
    have m1 : 1 ≤ m := ok.1
    unfold roomB at h
    by_cases q : b - a < p
    · simp only [if_pos q] at h
      injection h with h
      exact ⟨by show m ≤ r; omega, by omega⟩
    · simp only [if_neg q] at h
      cases h
def KeepsM (bd : Bd) (rs : VS) : Prop := ∀ a b r, a ≤ b → roomB bd a b = some r → sumM rs a b ≤ r
theorem brk_none {bd : Bd} {rs : VS} : brkF bd rs = none ↔ ∀ s, s < rs.length → ¬ PosP bd rs s := by
  obtain ⟨t, ht, hm⟩ := brkF_is bd rs
  cases t with
  | none => exact ⟨fun _ s hs => ht s (Nat.zero_le _) hs, fun _ => hm⟩
  | some s =>
    obtain ⟨e, _, _, _, _, h5⟩ := hm
    exact ⟨fun z => (by rw [z] at h5; cases h5), fun z => absurd ht.2.2.1 (z s ht.2.1)⟩
theorem keeps_iff {bd : Bd} {rs : VS} (ok : VOk rs) (bok : bd.ok) : brkF bd rs = none ↔ KeepsM bd rs := by
  rw [brk_none]
  refine ⟨fun h a b r hab hr => ?_, fun h s hs ⟨e, z, h1, h2, h3, h4⟩ => ?_⟩
  · rcases sumM_at ok a b with z | ⟨s, e, h1, h2, h3, _, h4, h5⟩
    · have := (room_pos bok hab hr).2
      omega
    · have m := ok.mono s e h1 h2
      obtain ⟨r', hr', hle⟩ := room_le bok h3 m h4 hr
      have : ¬ 0 < tot rs (e + 1) - tot rs s - r' := fun hz => h s (by omega) ⟨e, _, h1, h2, by unfold excB; rw [hr']; rfl, hz⟩
      omega
  · unfold excB at h3
    cases hr : roomB bd (mom rs s) (mom rs e) with
    | none => rw [hr] at h3; cases h3
    | some r =>
      rw [hr] at h3
      injection h3 with h3
      have h3 : tot rs (e + 1) - tot rs s - r = z := h3
      have m := ok.mono s e h1 h2
      have z1 := h _ _ r m hr
      have z2 := sumM_ge ok h1 h2 (Int.le_refl _) (Int.le_refl _)
      omega
theorem tot_pre (vs : VS) : ∀ i, i ≤ vs.length → tot vs i = pre vs i
  | 0, _ => rfl
  | i + 1, h => by
    rw [pre_succ vs i (by omega), ← tot_pre vs i (by omega)]
    rfl
theorem pk_le (f t : Int) : ∀ (r : VS) (u b x : Int), pk f t r u b ≤ x ↔ b ≤ x ∧ ∀ k, k < r.length → u + pre r (k + 1) - f * (t - (r.getD k (0, 0)).1) ≤ x
  | [], u, b, x => ⟨fun h => ⟨h, fun k hk => absurd hk (Nat.not_lt_zero _)⟩, fun h => h.1⟩
  | q :: r, u, b, x => by
    show pk f t r (u + q.2) (max b (u + q.2 - f * (t - q.1))) ≤ x ↔ _
    rw [pk_le f t r]
    refine ⟨fun ⟨h1, h2⟩ => ⟨by omega, fun k hk => ?_⟩, fun ⟨h1, h2⟩ => ⟨?_, fun k hk => ?_⟩⟩
    · cases k with
      | zero =>
        rw [pre_cons, pre_zero]
        show u + (q.2 + 0) - f * (t - q.1) ≤ x
        omega
      | succ k =>
        have z := h2 k (by rw [List.length_cons] at hk; omega)
        rw [pre_cons]
        show u + (q.2 + pre r (k + 1)) - f * (t - (r.getD k (0, 0)).1) ≤ x
        omega
    · have z := h2 0 (by rw [List.length_cons]; omega)
      rw [pre_cons, pre_zero] at z
      have z : u + (q.2 + 0) - f * (t - q.1) ≤ x := z
      omega
    · have z := h2 (k + 1) (by rw [List.length_cons]; omega)
      rw [pre_cons] at z
      have z : u + (q.2 + pre r (k + 1)) - f * (t - (r.getD k (0, 0)).1) ≤ x := z
      omega
/-- the stretches that end at t, with a visit there of cost c -/
def EndM (bd : Bd) (vs : VS) (t c : Int) : Prop := ∀ a r, a ≤ t → roomB bd a t = some r → sumM vs a t + c ≤ r
theorem mom_up {vs : VS} {t : Int} (up : Upto vs t) {i : Nat} (h : i < vs.length) : mom vs i ≤ t := by
  obtain ⟨q, hq, e⟩ := mom_mem h
  rw [e]
  exact up q hq
theorem due_end {bd : Bd} {vs : VS} {t c : Int} (bok : bd.ok) (ok : VOk vs) (up : Upto vs t) : dueV bd vs t c = some 0 ↔ EndM bd vs t c := by
  have all : ∀ i, i < vs.length → pre vs vs.length - pre vs i ≤ sumM vs (mom vs i) t := fun i hi => by
    have z := sumM_ge (a := mom vs i) (b := t) ok (show i ≤ vs.length - 1 by omega) (by omega) (Int.le_refl _) (mom_up up (by omega))
    rw [show vs.length - 1 + 1 = vs.length by omega, tot_pre vs _ (Nat.le_refl _), tot_pre vs i (by omega)] at z
    exact z
  have some_ : ∀ a, sumM vs a t = 0 ∨ ∃ i, i < vs.length ∧ a ≤ mom vs i ∧ sumM vs a t ≤ pre vs vs.length - pre vs i := fun a => by
    rcases sumM_at ok a t with z | ⟨s, e, h1, h2, h3, _, _, h5⟩
    · exact .inl z
    · have z := tot_le ok (i := e + 1) (j := vs.length) (by omega) (Nat.le_refl _)
      rw [tot_pre vs vs.length (Nat.le_refl _)] at z
      rw [tot_pre vs s (by omega)] at h5
      exact .inr ⟨s, by omega, h3, by omega⟩
  have nn : 0 ≤ sumM vs t t := sumM_nn t t (cop_of ok)
  cases bd with
  | jar s f =>
    have f0 : 0 ≤ f := bok.2.2.1
    obtain ⟨l, m, r⟩ := jrel_ex (f := f) ok
    rw [due_jar r up f0, wait_can f0, r.lev t up]
    have key : pk f t vs.reverse 0 0 + c ≤ s ↔ (0 ≤ s - c ∧ ∀ i, i < vs.length → pre vs vs.length - pre vs i - f * (t - mom vs i) ≤ s - c) := by
      rw [show pk f t vs.reverse 0 0 + c ≤ s ↔ pk f t vs.reverse 0 0 ≤ s - c from ⟨fun _ => by omega, fun _ => by omega⟩, pk_le]
      refine ⟨fun ⟨h1, h2⟩ => ⟨h1, fun i hi => ?_⟩, fun ⟨h1, h2⟩ => ⟨h1, fun k hk => ?_⟩⟩
      · have z := h2 (vs.length - 1 - i) (by rw [List.length_reverse]; omega)
        rw [pre_rev vs _ (by omega), rev_getD vs _ (by omega), show vs.length - (vs.length - 1 - i + 1) = i by omega, show vs.length - 1 - (vs.length - 1 - i) = i by omega] at z
        have z : 0 + (pre vs vs.length - pre vs i) - f * (t - mom vs i) ≤ s - c := z
        omega
      · rw [List.length_reverse] at hk
        have z := h2 (vs.length - 1 - k) (by omega)
        rw [pre_rev vs _ (by omega), rev_getD vs _ hk, show vs.length - (k + 1) = vs.length - 1 - k by omega]
        show 0 + (pre vs vs.length - pre vs (vs.length - 1 - k)) - f * (t - mom vs (vs.length - 1 - k)) ≤ s - c
        omega
    rw [key]
    refine ⟨fun ⟨h1, h2⟩ a r ha hr => ?_, fun h => ⟨?_, fun i hi => ?_⟩⟩
    · injection hr with hr
      rcases some_ a with z | ⟨i, hi, h3, h4⟩
      · have := Int.mul_nonneg f0 (show 0 ≤ t - a by omega)
        omega
      · have z := h2 i hi
        have := Int.mul_le_mul_of_nonneg_left (show t - mom vs i ≤ t - a by omega) f0
        omega
    · have z := h t _ (Int.le_refl _) rfl
      rw [Int.sub_self, Int.mul_zero] at z
      omega
    · have z := h (mom vs i) _ (mom_up up hi) rfl
      have z2 := all i hi
      omega
  | win m p =>
    have p1 : 1 ≤ p := bok.2.2.1
    have rm : ∀ a, t - a < p → roomB (.win m p) a t = some m := fun a h => by
      show (if t - a < p then some m else none) = some m
      rw [if_pos h]
    by_cases hc : c > m
    · unfold dueV
      rw [if_pos (show c > (Bd.win m p).cap from hc)]
      refine ⟨fun z => (by cases z), fun h => ?_⟩
      have := h t m (Int.le_refl _) (rm t (by omega))
      omega
    · obtain ⟨F, e, f0, f1, f2⟩ := due_win m p vs t c hc
      rw [e]
      refine ⟨fun z a r ha hr => ?_, fun h => ?_⟩
      · injection z with z
        have ta : t - a < p := by
          by_cases q : t - a < p
          · exact q
          · have hr : (if t - a < p then some m else none) = some r := hr
            rw [if_neg q] at hr
            cases hr
        rw [rm a ta] at hr
        injection hr with hr
        rcases some_ a with y | ⟨i, hi, h3, h4⟩
        · omega
        · have : ¬ pre vs i < pre vs vs.length + c - m := fun hlt => by
            have w : mom vs i + p - t ≤ F := f1 i hi hlt
            omega
          omega
      · rcases f2 with z | ⟨i, i1, i2, i3⟩
        · rw [z]
        · have i3 : F = mom vs i + p - t := i3
          by_cases q : F = 0
          · rw [q]
          · have z := h (mom vs i) m (mom_up up i1) (rm _ (by omega))
            have z2 := all i i1
            omega
/-! a visit put at one moment or another -/
def OkU (bds : List Bd) (rs : VS) (c u : Int) : Prop := ∀ bd ∈ bds, KeepsM bd (insB rs u c)
theorem keeps_ins {bd : Bd} {rs : VS} {t c : Int} (h : KeepsM bd rs) : KeepsM bd (insB rs t c) ↔ ∀ a b r, a ≤ t → t ≤ b → roomB bd a b = some r → sumM rs a b + c ≤ r := by
  refine ⟨fun k a b r h1 h2 hr => ?_, fun k a b r hab hr => ?_⟩
  · have z := k a b r (by omega) hr
    rw [sumM_ins, if_pos ⟨h1, h2⟩] at z
    exact z
  · rw [sumM_ins]
    by_cases p : a ≤ t ∧ t ≤ b
    · rw [if_pos p]
      exact k a b r p.1 p.2 hr
    · rw [if_neg p, Int.add_zero]
      exact h a b r hab hr
theorem mem_at {rs : VS} {q : Int × Int} (h : q ∈ rs) : ∃ i, i < rs.length ∧ mom rs i = q.1 := by
  obtain ⟨i, hi, e⟩ := List.getElem_of_mem h
  refine ⟨i, hi, ?_⟩
  unfold mom
  rw [List.getD_eq_getElem?_getD, List.getElem?_eq_getElem hi, e]
  rfl
theorem take_up (rs : VS) (t : Int) : Upto (rs.take (plc rs t)) t := fun q hq => by
  obtain ⟨i, hi, e⟩ := List.getElem_of_mem hq
  rw [List.length_take] at hi
  rw [List.getElem_take] at e
  have z := plc_ahead rs t i (by omega)
  unfold mom at z
  rw [List.getD_eq_getElem?_getD, List.getElem?_eq_getElem (by omega), e] at z
  exact z
theorem drop_hi {rs : VS} (ok : VOk rs) (t : Int) : ∀ q ∈ rs.drop (plc rs t), plc rs t < rs.length ∧ mom rs (plc rs t) ≤ q.1 ∧ t < q.1 := fun q hq => by
  obtain ⟨i, hi, e⟩ := List.getElem_of_mem hq
  rw [List.length_drop] at hi
  rw [List.getElem_drop] at e
  have lt : plc rs t + i < rs.length := by omega
  have m : mom rs (plc rs t + i) = q.1 := by
    unfold mom
    rw [List.getD_eq_getElem?_getD, List.getElem?_eq_getElem lt, e]
    rfl
  have z1 := ok.mono (plc rs t) (plc rs t + i) (by omega) lt
  have z2 := plc_behind (t := t) ok (i := plc rs t + i) (by omega) lt
  omega
theorem take_ok {rs : VS} (ok : VOk rs) (k : Nat) : VOk (rs.take k) := by
  have g : ∀ i, i < (rs.take k).length → (rs.take k).getD i (0, 0) = rs.getD i (0, 0) ∧ i < rs.length := fun i hi => by
    rw [List.length_take] at hi
    rw [List.getD_eq_getElem?_getD, List.getElem?_take, if_pos (by omega), List.getD_eq_getElem?_getD]
    exact ⟨rfl, by omega⟩
  refine ⟨fun i hi => ?_, fun i j hij hj => ?_⟩
  · rw [(g i hi).1]
    exact ok.cost i (g i hi).2
  · rw [(g i (by omega)).1, (g j hj).1]
    exact ok.rise i j hij (g j hj).2
theorem sum_split (rs : VS) (k : Nat) (a b : Int) : sumM rs a b = sumM (rs.take k) a b + sumM (rs.drop k) a b := by rw [← sumM_app, List.take_append_drop]
theorem cop_drop {rs : VS} (h : CoP rs) (k : Nat) : CoP (rs.drop k) := fun q hq => h q (List.mem_of_mem_drop hq)
theorem cop_take {rs : VS} (h : CoP rs) (k : Nat) : CoP (rs.take k) := fun q hq => h q (List.mem_of_mem_take hq)
abbrev bvT (bds : List Bd) (rs : VS) (p : Nat) : List (Bd × VS) := bds.map fun b => (b, rs.take p)
section
variable {bds : List Bd} {rs : VS} {c at_ : Int}
theorem fit_t (bok : ∀ b ∈ bds, b.ok) (ok : VOk rs) (hn : rs.length ≤ 300) {t : Int} (h : at_ ≤ t) : Fit (bvT bds rs (plc rs at_)) t := fun q hq => by
  obtain ⟨b, hb, rfl⟩ := List.mem_map.mp hq
  exact ⟨bok b hb, take_ok ok _, by rw [List.length_take]; omega, upto_le (take_up rs at_) h⟩
theorem ok_zero (bok : ∀ b ∈ bds, b.ok) (ok : VOk rs) {u : Int} (h : at_ ≤ u) (k : OkU bds rs c u) : waitAllV u c (bvT bds rs (plc rs at_)) 0 = some 0 := by
  refine waitAll_zero fun q hq => ?_
  obtain ⟨b, hb, rfl⟩ := List.mem_map.mp hq
  refine (due_end (bok b hb) (take_ok ok _) (upto_le (take_up rs at_) h)).mpr fun a r ha hr => ?_
  have z := k b hb a u r ha hr
  rw [sumM_ins, if_pos ⟨ha, Int.le_refl _⟩] at z
  have s := sum_split rs (plc rs at_) a u
  have nn := sumM_nn a u (cop_drop (cop_of ok) (plc rs at_))
  show sumM (rs.take (plc rs at_)) a u + c ≤ r
  omega
theorem not_yet (bok : ∀ b ∈ bds, b.ok) (ok : VOk rs) (hn : rs.length ≤ 300) {w : Int} (hw : waitAllV at_ c (bvT bds rs (plc rs at_)) 0 = some w) {u : Int} (h1 : at_ ≤ u) (h2 : u < at_ + w) : ¬ OkU bds rs c u := fun k => by
  have z := ok_zero (at_ := at_) bok ok h1 k
  have sh := waitAll_shift (c := c) (show 0 ≤ u - at_ by omega) (acc := 0) (fit_t (bds := bds) bok ok hn (Int.le_refl at_))
  rw [hw, show max 0 (0 - (u - at_)) = 0 by omega, show at_ + (u - at_) = u by omega, z] at sh
  have : (some (0 : Int)) = some (max 0 (w - (u - at_))) := sh
  injection this with this
  omega
theorem never_ (bok : ∀ b ∈ bds, b.ok) (ok : VOk rs) (hn : rs.length ≤ 300) (hw : waitAllV at_ c (bvT bds rs (plc rs at_)) 0 = none) {u : Int} (h1 : at_ ≤ u) : ¬ OkU bds rs c u := fun k => by
  have z := ok_zero (at_ := at_) bok ok h1 k
  have sh := waitAll_shift (c := c) (show 0 ≤ u - at_ by omega) (acc := 0) (fit_t (bds := bds) bok ok hn (Int.le_refl at_))
  rw [hw, show max 0 (0 - (u - at_)) = 0 by omega, show at_ + (u - at_) = u by omega, z] at sh
  cases sh
theorem jump_ (bok : ∀ b ∈ bds, b.ok) (ok : VOk rs) (hk : ∀ b ∈ bds, KeepsM b rs) (hw : waitAllV at_ c (bvT bds rs (plc rs at_)) 0 = some 0) (no : ¬ OkU bds rs c at_) : plc rs at_ < rs.length ∧ ∀ u, at_ ≤ u → u ≤ mom rs (plc rs at_) → ¬ OkU bds rs c u := by
  have cp := cop_of ok
  -- one bound that is not kept
  have ex : ∃ bd ∈ bds, ∃ a b r, a ≤ at_ ∧ at_ ≤ b ∧ roomB bd a b = some r ∧ r < sumM rs a b + c := by
    refine Classical.byContradiction fun h => no fun bd hb => (keeps_ins (hk bd hb)).mpr fun a b r h1 h2 hr => ?_
    refine Classical.byContradiction fun z => h ⟨bd, hb, a, b, r, h1, h2, hr, by omega⟩
  obtain ⟨bd, hb, a, b, r, h1, h2, hr, hlt⟩ := ex
  obtain ⟨d, hd, hd0⟩ := waitAll_le hw (bd, rs.take (plc rs at_)) (List.mem_map.mpr ⟨bd, hb, rfl⟩)
  have d0 := due_nn (bok bd hb) (take_ok ok _) (take_up rs at_) hd
  obtain rfl : d = 0 := by omega
  have en := (due_end (bok bd hb) (take_ok ok _) (take_up rs at_)).mp hd
  obtain ⟨r', hr', hle⟩ := room_le (bok bd hb) (Int.le_refl a) h1 h2 hr
  have z := en a r' h1 hr'
  have low : ¬ ∀ q ∈ rs.drop (plc rs at_), ¬ (a ≤ q.1 ∧ q.1 ≤ b) := fun hn => by
    have s := sum_split rs (plc rs at_) a b
    rw [sumM_none hn] at s
    have m := sumM_upto (a := a) (b := b) (take_up rs at_) (cop_take cp (plc rs at_))
    omega
  obtain ⟨q, hq, hab⟩ : ∃ q ∈ rs.drop (plc rs at_), a ≤ q.1 ∧ q.1 ≤ b := by
    refine Classical.byContradiction fun h => low fun q hq z => h ⟨q, hq, z⟩
  obtain ⟨p1, p2, p3⟩ := drop_hi ok at_ q hq
  refine ⟨p1, fun u hu1 hu2 k => ?_⟩
  have y := (keeps_ins (hk bd hb)).mp (k bd hb) a b r (by omega) (by omega) hr
  omega
/-- the least moment from t on, or none -/
def EarlyIs (bds : List Bd) (rs : VS) (t c : Int) (r : Option Int) : Prop := match r with
  | none => ∀ u, t ≤ u → ¬ OkU bds rs c u
  | some e => t ≤ e ∧ OkU bds rs c e ∧ ∀ u, t ≤ u → u < e → ¬ OkU bds rs c u
theorem okU_iff (bok : ∀ b ∈ bds, b.ok) (ok : VOk rs) (hc : 1 ≤ c) (u : Int) : OkU bds rs c u ↔ ∀ bd ∈ bds, brkF bd (insB rs u c) = none := ⟨fun h bd hb => (keeps_iff (ins_ok ok hc) (bok bd hb)).mpr (h bd hb), fun h bd hb => (keeps_iff (ins_ok ok hc) (bok bd hb)).mp (h bd hb)⟩
end
/-! the least moment, walked -/
theorem foot_kind {cJM cWM : Addr} {bd : Bd} {vs : VS} {m : Mt} {H : Hp} (h : MtS cJM cWM bd vs m H) : ∀ x ∈ foot m, (∃ xs, H x = some (.lst xs)) ∨ ∃ C dx fs, H x = some (.ins C dx fs) := by
  obtain ⟨x0, ol⟩ := m
  cases bd with
  | jar s f =>
    obtain ⟨e, dx, lv, mo, hx, _⟩ := h
    have e : ol = none := e
    subst e
    intro x hm
    rw [show foot (x0, none) = [x0] from rfl] at hm
    rw [List.mem_singleton.mp hm]
    exact .inr ⟨_, _, _, hx⟩
  | win mo s =>
    obtain ⟨l, dx, g, tt, rs, e, hx, ⟨ps, hl, _⟩, _⟩ := h
    have e : ol = some l := e
    subst e
    intro x hm
    rw [show foot (x0, some l) = [x0, l] from rfl] at hm
    rcases List.mem_cons.mp hm with e | e
    · rw [e]
      exact .inr ⟨_, _, _, hx⟩
    · rw [List.mem_singleton.mp e]
      exact .inl ⟨_, hl⟩
theorem Mts.at {cJM cWM : Addr} {bvs : List (Bd × VS)} {ms : List Mt} {H : Hp} (h : Mts cJM cWM bvs ms H) {m : Mt} (hm : m ∈ ms) : ∃ q, q ∈ bvs ∧ MtS cJM cWM q.1 q.2 m H := by
  obtain ⟨j, hj⟩ := List.getElem?_of_mem hm
  have hl : j < bvs.length := by
    rw [← h.len]
    exact (List.getElem?_eq_some_iff.mp hj).1
  exact ⟨bvs[j], List.getElem_mem _, h.st j _ m (List.getElem?_eq_getElem hl) hj⟩
theorem mts_kind {cJM cWM : Addr} {bvs : List (Bd × VS)} {ms : List Mt} {H : Hp} (h : Mts cJM cWM bvs ms H) : ∀ m ∈ ms, ∀ x ∈ foot m, (∃ xs, H x = some (.lst xs)) ∨ ∃ C dx fs, H x = some (.ins C dx fs) := fun m hm x hx => by
  obtain ⟨q, _, S⟩ := h.at hm
  exact foot_kind S x hx
theorem tabs_feet {T : List NdefX.NTab} {H H2 : Hp} {ms : List Mt} (t : NdefX.TabsN T H) (kd : ∀ m ∈ ms, ∀ x ∈ foot m, (∃ xs, H x = some (.lst xs)) ∨ ∃ C dx fs, H x = some (.ins C dx fs)) (k : ∀ x o, (∀ m ∈ ms, x ∉ foot m) → H x = some o → H2 x = some o) : NdefX.TabsN T H2 := tabs_keep t fun a o ha n1 n2 => k a o (fun m hm hx => by
  rcases kd m hm a hx with ⟨xs, z⟩ | ⟨C, dx, fs, z⟩
  · rw [ha] at z
    injection z with z
    exact n1 _ z
  · rw [ha] at z
    injection z with z
    exact n2 _ _ _ z) ha
theorem took_take {bds : List Bd} {rs : VS} {p : Nat} (h : p < rs.length) : tookV (mom rs p) (cst rs p) (bvT bds rs p) = bvT bds rs (p + 1) := by
  unfold tookV bvT
  rw [List.map_map]
  refine List.map_congr_left fun b _ => ?_
  show (b, rs.take p ++ [(mom rs p, cst rs p)]) = (b, rs.take (p + 1))
  have e : rs[p] = (mom rs p, cst rs p) := by
    unfold mom cst
    rw [List.getD_eq_getElem?_getD, List.getElem?_eq_getElem h]
    rfl
  rw [List.take_succ, List.getElem?_eq_getElem h, e]
  rfl
theorem fit_p {bds : List Bd} {rs : VS} {p : Nat} (bok : ∀ b ∈ bds, b.ok) (ok : VOk rs) (hn : rs.length ≤ 300) (h : p < rs.length) : Fit (bvT bds rs p) (mom rs p) := fun q hq => by
  obtain ⟨b, hb, rfl⟩ := List.mem_map.mp hq
  refine ⟨bok b hb, take_ok ok _, by rw [List.length_take]; omega, fun x hx => ?_⟩
  obtain ⟨i, hi, e⟩ := List.getElem_of_mem hx
  rw [List.length_take] at hi
  rw [List.getElem_take] at e
  have z := ok.mono i p (by omega) h
  unfold mom at z
  rw [List.getD_eq_getElem?_getD, List.getElem?_eq_getElem (by omega), e] at z
  exact z
def spTakeUp (cJ cW cB cJM cWM : Addr) : Sp := fun vs H Q _ => ∃ (b q lb lr : Addr) (place : Nat) (t : Int) (bds : List Bd) (rs : VS) (ms : List Mt) (H0 : Hp), vs = [.ref b, .ref q, .int (place : Int), .int t] ∧ BookAt cJ cW cB b lb lr bds rs H0 ∧ LamX.ExtN H0 H ∧ H q = some (.lst (refs ms)) ∧ Mts cJM cWM (bvT bds rs place) ms H ∧ (∀ bd ∈ bds, bd.ok) ∧ VOk rs ∧ rs.length ≤ 300 ∧ place ≤ plc rs t ∧
  (∀ m ∈ ms, ∀ x ∈ foot m, H0 x = none ∧ x ≠ q) ∧ ∀ H2, LamX.ExtN H0 H2 → (∀ x o, (∀ m ∈ ms, x ∉ foot m) → H x = some o → H2 x = some o) → Mts cJM cWM (bvT bds rs (plc rs t)) ms H2 → Q (.int (plc rs t : Nat)) H2
noncomputable def keptB (bds : List Bd) (rs : VS) (t c : Int) : Bool := bds.all fun bd => (brkF bd (insB rs t c)).isNone
def spKeptW (T : List NdefX.NTab) (cJ cW cB : Addr) : Sp := fun vs H Q _ => ∃ b lb lr bds rs t c, vs = [.ref b, .int t, .int c] ∧ BookAt cJ cW cB b lb lr bds rs H ∧ (∀ bd ∈ bds, bd.ok) ∧ bds.length ≤ 4 ∧ VOk rs ∧ rs.length ≤ 290 ∧ 1 ≤ c ∧ NdefX.TabsN T H ∧ ∀ H2, LamX.ExtN H H2 → NdefX.TabsN T H2 → Q (.bl (keptB bds rs t c)) H2
section
variable {P : Program} {w : World} {K : PySem.W.Frag} {mg : Str → Option Value} {base : Heap} {cJ cW cB cJM cWM cG : Addr} {cs : Nat → Addr} {Tb : List NdefX.NTab}
theorem met_take_up {f : Addr} {fd : FuncData} (T : Blt mg) (k : ClBk K cB) (c_take_by_all : C8.Cal P w K mg base 3 "take_by_all" (spTakeAll K cJM cWM) []) (me : Meth K cB "_take_up_to" f) (F : C8.Fun K "_take_up_to" "Book._take_up_to" s_Book__take_up_to f fd) (b : Binds K fd ["self", "meters", "place", "moment"] []) : C8.Met P w K mg base 4 cB "_take_up_to" (spTakeUp cJ cW cB cJM cWM) [] := by
  obtain ⟨cl, n1, n2⟩ := k
  refine C8.met0 cl me F b sc_Book__take_up_to (fun vs H Q E h => ?_) (fun cdv A outer s H vs Q E hr h => ?_)
  · obtain ⟨b, q, lb, lr, place, t, bds, rs, ms, H0, rfl, _⟩ := h
    rfl
  · obtain ⟨b, q, lb, lr, place, t, bds, rs, ms, H0, rfl, B, e0, hq, M, bok, ok, hn, hpl, fr, qq⟩ := h
    refine ⟨_, (pss_cons (ps_while PassesOwn.never (PW.pt (pw_and (pt_cmpR op_lt (pv 2) (pe_callB call_len_seq (by rfl) T.b_len boot_len (pa_cons (pe_fld (pv 0) rfl) pa_nil)) (nomark _)) (pw_and1 (pt_cmpR op_le (pe_ix ix_tup (pe_ix ix_list (pe_fld (pv 0) rfl) (pv 2) (fun _ _ => rfl)) pe_int (fun _ _ => rfl)) (pv 3) (nomark _)))))
    (pss_cons (ps_expr (C8.pe_c c_take_by_all hr (by decide) rfl (pa_cons (pv 1) (pa_cons (pe_ix ix_tup (pe_ix ix_list (pe_fld (pv 0) rfl) (pv 2) (fun _ _ => rfl)) pe_int (fun _ _ => rfl)) (pa_cons (pe_ix ix_tup (pe_ix ix_list (pe_fld (pv 0) rfl) (pv 2) (fun _ _ => rfl)) pe_int (fun _ _ => rfl)) pa_nil)))))
    (pss_one (ps_aug (i := 2) sc_Book__take_up_to.nd rfl (Or.inl rfl) pe_int ip_add))))
  (pss_one (ps_ret (pv 2)))), ?_⟩
    obtain ⟨d, hob⟩ := B.ob
    have hple := plc_le rs t
    refine q_while (D := { nx := _, rt := Q }) (fun m σ' H' => ∃ pl : Nat, m = rs.length - pl ∧ σ' = [some (.ref b), some (.ref q), some (.int (pl : Int)), some (.int t)] ∧ pl ≤ plc rs t ∧ LamX.ExtN H0 H' ∧ (∀ x o, (∀ m ∈ ms, x ∉ foot m) → H x = some o → H' x = some o) ∧ Mts cJM cWM (bvT bds rs pl) ms H') (rs.length - place) ⟨place, rfl, rfl, hpl, e0, fun _ _ _ h => h, M⟩ fun m σ' H' ⟨pl, em, hσ, hp, e, kp, MM⟩ => ?_
    subst hσ
    have hob' : H' b = some (.ins cB d (fBook lb lr)) := e _ _ hob fun _ z => by cases z
    have hP' : PairsT H' lr rs := exN_pairs e B.rows
    have hq' := kp q _ (fun m hm hx => (fr m hm q hx).2 rfl) hq
    refine ⟨decide (pl < plc rs t), ?_, fun hb H1 e1 => ?_, fun hb H1 e1 => ?_⟩
    · have c1 : EvT (tTest (tOp (rI0 fun i j => V.bl (decide (i < j))) (tVar 2) (tCB (fun xs H Q => ∃ p ys, xs = [.ref p] ∧ (SqL K H p ys ∨ SqT K H p ys) ∧ Q (.int ys.length) H) (tCons (tFld K (tVar 0) "_row") tNil)))) [some (.ref b), some (.ref q), some (.int (pl : Int)), some (.int t)] H' (decide ((pl : Int) < rs.length)) := et_test (ev_op (ev_var rfl) (ev_lenP (ev_fld (ev_var rfl) hob' cl n2 rfl) hP') rv_I0)
      by_cases hl : pl < rs.length
      · have c2 : EvT (tTest (tOp (rI0 fun i j => V.bl (decide (i ≤ j))) (tOp (rIxT K) (tOp (rIxL K) (tFld K (tVar 0) "_row") (tVar 2)) (tC (.int 0))) (tVar 3))) [some (.ref b), some (.ref q), some (.int (pl : Int)), some (.int t)] H' (decide (mom rs pl ≤ t)) := et_test (ev_op (ev_pair0 (i := (pl : Int)) (ev_fld (ev_var rfl) hob' cl n2 rfl) (ev_var rfl) hP' (by omega) (by rw [Int.toNat_natCast]; exact getD_some hl)) (ev_var rfl) rv_I0)
        refine et_is (et_and c1 fun _ => c2) ?_
        rw [decide_eq_true (show (pl : Int) < rs.length by omega), Bool.true_and]
        by_cases z : pl < plc rs t
        · rw [decide_eq_true z]
          exact decide_eq_true (plc_ahead rs t pl z)
        · rw [decide_eq_false z]
          have := plc_next rs t (by omega)
          rw [show plc rs t = pl by omega] at this
          exact decide_eq_false (by omega)
      · refine et_is (et_and (b := true) c1 fun z => ?_) ?_
        · exact absurd (of_decide_eq_true z) (by omega)
        · rw [decide_eq_false (show ¬ (pl : Int) < rs.length by omega), decide_eq_false (show ¬ pl < plc rs t by omega)]
          rfl
    · have hlt := of_decide_eq_true hb
      have hl : pl < rs.length := by omega
      have hob1 := e1 _ _ hob'
      have hP1 := hP'.mono e1
      have c1 : 1 ≤ cst rs pl := ok.cost pl hl
      have p0 : Ev (tOp (rIxT K) (tOp (rIxL K) (tFld K (tVar 0) "_row") (tVar 2)) (tC (.int 0))) [some (.ref b), some (.ref q), some (.int (pl : Int)), some (.int t)] H1 (.int (mom rs pl)) := ev_pair0 (i := (pl : Int)) (ev_fld (ev_var rfl) hob1 cl n2 rfl) (ev_var rfl) hP1 (by omega) (by rw [Int.toNat_natCast]; exact getD_some hl)
      have p1 : Ev (tOp (rIxT K) (tOp (rIxL K) (tFld K (tVar 0) "_row") (tVar 2)) (tC (.int 1))) [some (.ref b), some (.ref q), some (.int (pl : Int)), some (.int t)] H1 (.int (cst rs pl)) := ev_pair1 (i := (pl : Int)) (ev_fld (ev_var rfl) hob1 cl n2 rfl) (ev_var rfl) hP1 (by omega) (by rw [Int.toNat_natCast]; exact getD_some hl)
      refine ⟨fun σ2 H2 => ∃ pl2 : Nat, pl2 = pl + 1 ∧ σ2 = [some (.ref b), some (.ref q), some (.int (pl2 : Int)), some (.int t)] ∧ LamX.ExtN H0 H2 ∧ (∀ x o, (∀ m ∈ ms, x ∉ foot m) → H x = some o → H2 x = some o) ∧ Mts cJM cWM (bvT bds rs pl2) ms H2, fun σ2 H2 ⟨pl2, ep, hσ, e2, k2, M2⟩ => ⟨rs.length - pl2, by omega, pl2, rfl, hσ, by omega, e2, k2, M2⟩, ?_⟩
      refine ⟨_, rfl, p0 H1 (Ex.refl _) _ fun H2 e2 => p1 H2 e2 _ fun H3 e3 => ?_⟩
      have e13 := e1.trans (e2.trans e3)
      refine ⟨q, _, ms, mom rs pl, cst rs pl, rfl, sq_of (e13 _ _ hq'), MM.mono e13, fit_p bok ok hn hl, c1, fun m hm hx => (fr m hm q hx).2 rfl, fun H4 k4 M4 => ?_⟩
      rw [took_take hl] at M4
      refine s_aug (D := { nx := _, rt := Q, bk := _, ct := _ }) (a := (pl : Int)) (b := 1) rfl ev_c fun H5 e5 => ⟨pl + 1, rfl, by rw [Int.natCast_add]; rfl, fun x o hx no => e5 _ _ (k4 x o (fun m hm hf => by rw [(fr m hm x hf).1] at hx; cases hx) (e13 _ _ (e _ _ hx no))), fun x o hf hx => e5 _ _ (k4 x o hf (e13 _ _ (kp x o hf hx))), M4.mono e5⟩
    · have hge := of_decide_eq_false hb
      obtain rfl : pl = plc rs t := by omega
      exact s_ret (D := { nx := _, rt := Q }) (ev_var rfl) fun H2 e2 => qq H2 (e.trans (Ex.extN (e1.trans e2))) (fun x o hf hx => (e1.trans e2) _ _ (kp x o hf hx)) (MM.mono (e1.trans e2))
theorem met_kept_with {f : Addr} {fd : FuncData} (T : Blt mg) (k : ClBk K cB) (c_row_with : C8.Cal P w K mg base 1 "_row_with" (spW RRow) []) (c_broken : C8.Cal P w K mg base 4 "broken" (spBrk Tb cJ cW) []) (me : Meth K cB "_is_kept_with" f) (F : C8.Fun K "_is_kept_with" "Book._is_kept_with" s_Book__is_kept_with f fd) (b : Binds K fd ["self", "moment", "cost"] []) : C8.Met P w K mg base 5 cB "_is_kept_with" (spKeptW Tb cJ cW cB) [] := by
  obtain ⟨cl, n1, n2⟩ := k
  refine C8.met0 cl me F b sc_Book__is_kept_with (fun vs H Q E h => ?_) (fun cdv A outer s H vs Q E hr h => ?_)
  · obtain ⟨b, lb, lr, bds, rs, t, c, rfl, _⟩ := h
    rfl
  · obtain ⟨b, lb, lr, bds, rs, t, c, rfl, B, bok, h4, ok, hn, c1, hT, qq⟩ := h
    refine ⟨_, (pss_cons (ps_set (i := 3) sc_Book__is_kept_with.nd rfl (Or.inr rfl) (C8.pe_c c_row_with hr (by decide) rfl (pa_cons (pe_fld (pv 0) rfl) (pa_cons (pv 1) (pa_cons (pv 2) pa_nil)))))
  (pss_one (ps_ret (pe_callB (cr_all rfl) (by rfl) T.b_all (by decide +kernel) (pa_cons (pe_lc (own := [("bound", 4)]) (g := gName 4) rfl sc_Book__is_kept_with.nd (pi_list (pe_fld (pv 0) rfl)) (blkOk_by (own := [("bound", 4)]) (N := ["self", "moment", "cost", "row", "bound"]) (sc := C8.fnScope s_Book__is_kept_with) (by decide +kernel)) (fun _ _ _ _ _ => pg_name (i := 4) sc_Book__is_kept_with.nd rfl (Or.inl rfl)) (fun _ _ _ _ _ => pts_nil) (fun _ _ _ _ _ => (pe_cmp (pc_isN (C8.pe_c c_broken hr (by decide) rfl (pa_cons (pv 4) (pa_cons (pv 3) pa_nil)))) rfl))) pa_nil))))), ?_⟩
    obtain ⟨d, hob⟩ := B.ob
    refine EvW.go (evw_callW (ea_cons (ev_fld (ev_var rfl) hob cl n2 rfl) (ea_cons (ev_var rfl) (ea_cons (ev_var rfl) ea_nil))) fun H4 e4 => ⟨lr, rs, t, c, H, rfl, B.rows.mono e4, ok, by omega, e4, rfl⟩) fun v H1 e1 ⟨p, ev, np, hp⟩ => ?_
    subst ev
    have B1 := B.mono e1
    obtain ⟨ys, hlb, hys⟩ := B1.bs
    have hlen := hys.length
    have ok' := ins_ok (rs := rs) (t := t) ok c1
    have hn' := ins_len rs t c
    refine ⟨_, rfl, b, cB, d, _, _, rfl, e1 _ _ hob, cl, n1, rfl, lb, rfl, ⟨ys.map V.ref, sq_of hlb⟩, fun D nD => ?_⟩
    refine lc_list (K := K) (a := lb) (xs := ys.map V.ref) (fun i H' => LamX.ExtN H1 H' ∧ NdefX.TabsN Tb H' ∧ H' D = some (.lst (((bds.take i).map fun bd => (brkF bd (insB rs t c)).isNone).map V.bl)))
      ⟨Ex.extN (Ex.new nD), hT.ext (e1.trans (Ex.new nD)), upd_same⟩ (fun i H' _ ⟨e, _⟩ => sq_of (exN_lst e hlb)) (fun i x H' hx ⟨e, t', hD⟩ => ?_) (fun H' ⟨e, t', hD⟩ => ?_)
    · rw [List.getElem?_map] at hx
      obtain ⟨y, hy, rfl⟩ := Option.map_eq_some_iff.mp hx
      obtain ⟨bd, hbd, hBd⟩ := paired_at hys hy
      have hi : i < bds.length := (List.getElem?_eq_some_iff.mp hbd).1
      show wipe _ _ = wipe _ _ ∧ _
      refine ⟨rfl, yesT8 ?_⟩
      refine ⟨_, rfl, _, rfl, y, p, bd, insB rs t c, brkF bd (insB rs t c), rfl, hBd.exN e, exN_pairs e hp, ok', bok bd (List.mem_of_getElem? hbd), by omega, t', brkF_is _ _, fun v H3 e3 t3 hv => ?_⟩
      have hD3 := exN_lst e3 hD
      have ev : decide (v = V.non) = (brkF bd (insB rs t c)).isNone := by
        cases hz : brkF bd (insB rs t c) with
        | none =>
          rw [hz] at hv
          have hv : v = .non := hv
          rw [hv]
          rfl
        | some q =>
          rw [hz] at hv
          obtain ⟨p', hv, _⟩ := hv
          rw [hv]
          rfl
      refine ⟨_, hD3, sz_lt (by rw [List.length_map, List.length_map, List.length_take]; omega), fun x o hx no => ?_, tabs_lst t3 hD3, ?_⟩
      · rw [upd_ne (ne_of_none hx nD)]
        exact e3 _ _ (e _ _ hx no) no
      · rw [upd_same, ev, List.take_succ, hbd, List.map_append, List.map_append]
        rfl
    · rw [List.length_map, ← hlen, List.take_length] at hD
      refine ⟨D, _, rfl, sq_of hD, ?_⟩
      have ea : (bds.map fun bd => (brkF bd (insB rs t c)).isNone).all id = keptB bds rs t c := by
        unfold keptB
        rw [List.all_map]
        rfl
      rw [ea]
      exact qq _ ((Ex.extN e1).trans e) t'
end
/-! earliest -/
def spEarly (K : PySem.W.Frag) (cJ cW cB : Addr) (cs : Nat → Addr) (T : List NdefX.NTab) : Sp := fun vs H Q E => ∃ b lb lr bds rs mv cv, vs = [.ref b, mv, cv] ∧ BookAt cJ cW cB b lb lr bds rs H ∧ (∀ bd ∈ bds, bd.ok) ∧ bds.length ≤ 4 ∧ VOk rs ∧ (∀ bd ∈ bds, KeepsM bd rs) ∧ rs.length ≤ 40 ∧ NdefX.TabsN T H ∧ Kd K H mv ∧ Kd K H cv ∧
  ((inR mv 0 1000000000000 = false ∧ ∀ H2, Ex H H2 → E (.ref (cs 1)) none H2) ∨ ∃ t, mv = .int t ∧ inR mv 0 1000000000000 = true ∧
    ((inR cv 1 1000000000 = false ∧ ∀ H2, Ex H H2 → E (.ref (cs 2)) none H2) ∨ ∃ c, cv = .int c ∧ inR cv 1 1000000000 = true ∧
      ∀ r H2, EarlyIs bds rs t c r → LamX.ExtN H H2 → NdefX.TabsN T H2 → Q (opV r) H2))
theorem keptB_iff {bds : List Bd} {rs : VS} {t c : Int} (bok : ∀ b ∈ bds, b.ok) (ok : VOk rs) (hc : 1 ≤ c) : keptB bds rs t c = true ↔ OkU bds rs c t := by
  rw [okU_iff bok ok hc]
  unfold keptB
  rw [List.all_eq_true]
  refine ⟨fun h bd hb => Option.isNone_iff_eq_none.mp (h bd hb), fun h bd hb => Option.isNone_iff_eq_none.mpr (h bd hb)⟩
theorem mts_exN {cJM cWM : Addr} {bvs : List (Bd × VS)} {ms : List Mt} {H H' : Hp} (e : LamX.ExtN H H') (h : Mts cJM cWM bvs ms H) : Mts cJM cWM bvs ms H' := ⟨h.len, fun j q m a b => by
  have z := h.st j q m a b
  obtain ⟨bd, vs⟩ := q
  cases bd with
  | jar s f =>
    obtain ⟨e0, dx, lv, mo, hx, r⟩ := z
    exact ⟨e0, dx, lv, mo, e _ _ hx (fun _ z => by cases z), r⟩
  | win mo s =>
    obtain ⟨l, dx, g, tt, rs, e0, hx, hl, r⟩ := z
    exact ⟨l, dx, g, tt, rs, e0, e _ _ hx (fun _ z => by cases z), exN_pairs e hl, r⟩, h.nd⟩
noncomputable def muE (bds : List Bd) (rs : VS) (c u : Int) : Nat := 2 * (rs.length - plc rs u) + if waitAllV u c (bvT bds rs (plc rs u)) 0 = some 0 then 0 else 1
theorem plc_mono {rs : VS} (ok : VOk rs) {t u : Int} (h : t ≤ u) : plc rs t ≤ plc rs u := by
  refine Classical.byContradiction fun z => ?_
  have a := plc_ahead rs t (plc rs u) (by omega)
  have b := plc_next rs u (by have := plc_le rs t; omega)
  omega
theorem plc_past {rs : VS} (ok : VOk rs) {p : Nat} (h : p < rs.length) : p + 1 ≤ plc rs (mom rs p + 1) := by
  refine Classical.byContradiction fun z => ?_
  have b := plc_next rs (mom rs p + 1) (by omega)
  have m := ok.mono (plc rs (mom rs p + 1)) p (by omega) h
  omega
theorem mu_wait {bds : List Bd} {rs : VS} {c t w : Int} (bok : ∀ b ∈ bds, b.ok) (ok : VOk rs) (hn : rs.length ≤ 300) (hw : waitAllV t c (bvT bds rs (plc rs t)) 0 = some w) (w0 : 0 < w) : muE bds rs c (t + w) < muE bds rs c t := by
  have m := plc_mono ok (show t ≤ t + w by omega)
  have l := plc_le rs (t + w)
  unfold muE
  rw [hw, if_neg (show ¬ (some w = some 0) from fun z => by injection z with z; omega)]
  by_cases e : plc rs (t + w) = plc rs t
  · have sh := waitAll_shift (c := c) (show 0 ≤ w by omega) (acc := 0) (fit_t (bds := bds) bok ok hn (Int.le_refl t))
    rw [hw, show max 0 (0 - w) = 0 by omega] at sh
    have sh : waitAllV (t + w) c (bvT bds rs (plc rs t)) 0 = some (max 0 (w - w)) := sh
    rw [e, sh, show max 0 (w - w) = 0 by omega, if_pos rfl]
    omega
  · split <;> omega
theorem mu_jump {bds : List Bd} {rs : VS} {c t : Int} (ok : VOk rs) (h : plc rs t < rs.length) : muE bds rs c (mom rs (plc rs t) + 1) < muE bds rs c t := by
  have m := plc_past ok h
  have l := plc_le rs (mom rs (plc rs t) + 1)
  unfold muE
  split <;> split <;> omega
section
variable {P : Program} {w : World} {K : PySem.W.Frag} {mg : Str → Option Value} {base : Heap} {cJ cW cB cJM cWM cG : Addr} {cs : Nat → Addr} {Tb : List NdefX.NTab}
theorem met_earliest {f : Addr} {fd : FuncData} (T : Blt mg) (G : Gcl mg cG cs cJ cW) (k : ClBk K cB) (c_check_moment : CalX P w K mg base 2 "check_moment" (spChk K (cs 1) 0 1000000000000)) (c_check_cost : CalX P w K mg base 2 "check_cost" (spChk K (cs 2) 1 1000000000))
    (c_new_meters : C8.Cal P w K mg base 4 "new_meters" (spW (RNew K cJ cW cJM cWM)) []) (c_wait_for_all : C8.Cal P w K mg base 3 "wait_for_all" (spF (RWaitAll K cJM cWM)) []) (t_Book__take_up_to : C8.Met P w K mg base 4 cB "_take_up_to" (spTakeUp cJ cW cB cJM cWM) []) (t_Book__is_kept_with : C8.Met P w K mg base 5 cB "_is_kept_with" (spKeptW Tb cJ cW cB) [])
    (me : Meth K cB "earliest" f) (F : C8.Fun K "earliest" "Book.earliest" s_Book_earliest f fd) (b : Binds K fd ["self", "moment", "cost"] []) : MetX P w K mg base 6 cB "earliest" (spEarly K cJ cW cB cs Tb) := by
  obtain ⟨cl, n1, n2⟩ := k
  refine metX cl me F b sc_Book_earliest (fun vs H Q E h => ?_) (fun cdv A outer s H vs Q E hr h => ?_)
  · obtain ⟨b, lb, lr, bds, rs, mv, cv, rfl, _⟩ := h
    rfl
  · obtain ⟨b, lb, lr, bds, rs, mv, cv, rfl, B, bok, h4, ok, hk, hn, hT, km, kc, h⟩ := h
    refine ⟨_, (pss_cons (ps_expr (pe_cX c_check_moment own_takes hr (by decide) rfl (pa_cons (pv 1) pa_nil)))
  (pss_cons (ps_expr (pe_cX c_check_cost own_takes hr (by decide) rfl (pa_cons (pv 2) pa_nil)))
  (pss_cons (ps_set (i := 3) sc_Book_earliest.nd rfl (Or.inl rfl) (C8.pe_c c_new_meters hr (by decide) rfl (pa_cons (pe_fld (pv 0) rfl) pa_nil)))
  (pss_cons (ps_set (i := 4) sc_Book_earliest.nd rfl (Or.inl rfl) (pv 1))
  (pss_cons (ps_set (i := 5) sc_Book_earliest.nd rfl (Or.inl rfl) pe_int)
  (pss_one (ps_while (passes_of rfl) (pt_val pe_bl)
    (pss_cons (ps_set (i := 5) sc_Book_earliest.nd rfl (Or.inl rfl) (C8.pe_mt t_Book__take_up_to hr (by decide) (pv 0) (pa_cons (pv 3) (pa_cons (pv 5) (pa_cons (pv 4) pa_nil)))))
    (pss_cons (ps_set (i := 6) sc_Book_earliest.nd rfl (Or.inl rfl) (C8.pe_c c_wait_for_all hr (by decide) rfl (pa_cons (pv 3) (pa_cons (pv 4) (pa_cons (pv 2) pa_nil)))))
    (pss_cons (ps_if (pt_cmp (pc_isN (pv 6)))
      (pss_one (ps_ret pe_non))
      pss_nil)
    (pss_one (ps_if (pt_cmpR op_gt (pv 6) pe_int (nomark _))
      (pss_one (ps_aug (i := 4) sc_Book_earliest.nd rfl (Or.inl rfl) (pv 6) ip_add))
      (pss_one (ps_if (pt_val (C8.pe_mt t_Book__is_kept_with hr (by decide) (pv 0) (pa_cons (pv 4) (pa_cons (pv 2) pa_nil))))
        (pss_one (ps_ret (pv 4)))
        (pss_one (ps_set (i := 4) sc_Book_earliest.nd rfl (Or.inl rfl) (pe_op op_add (pe_ix ix_tup (pe_ix ix_list (pe_fld (pv 0) rfl) (pv 5) (fun _ _ => rfl)) pe_int (fun _ _ => rfl)) pe_int))))))))))))))))), ?_⟩
    refine ⟨_, rfl, mv, rfl, km, ?_⟩
    rcases h with ⟨hm, qe⟩ | ⟨t, rfl, hm, h⟩
    · exact .inr ⟨hm, qe⟩
    refine .inl ⟨hm, fun H1 e1 => ?_⟩
    refine ⟨_, rfl, cv, rfl, kc.mono e1, ?_⟩
    rcases h with ⟨hc, qe⟩ | ⟨c, rfl, hc, qq⟩
    · exact .inr ⟨hc, fun H2 e2 => qe H2 (e1.trans e2)⟩
    refine .inl ⟨hc, fun H2 e2 => ?_⟩
    dsimp only
    have c1 : 1 ≤ c := by obtain ⟨i, e, h1, _⟩ := inR_int hc; cases e; exact h1
    have e02 := e1.trans e2
    have B2 := B.mono e02
    obtain ⟨dx, hob⟩ := B2.ob
    obtain ⟨ys, hlb, hys⟩ := B2.bs
    refine EvW.go (evw_callW (ea_cons (ev_fld (ev_var rfl) hob cl n1 rfl) ea_nil) fun H3 e3 => ⟨lb, ys, bds, H2, rfl, sq_of (e3 _ _ hlb), paired_imp hys fun _ _ z => z.mono e3, by omega, e3, rfl⟩) fun v H3 e3 ⟨q, ms, ev, hq, M, fr, nq⟩ => ?_
    subst ev
    refine q_asg (ev_var (v := .int t) rfl) fun H4 e4 => q_asg (v := .int ((0 : Nat) : Int)) ev_c fun H5 e5 => ?_
    have e35 := e4.trans e5
    have e25 := e3.trans e35
    have E0' : LamX.ExtN H H2 := Ex.extN e02
    refine s_while (D := { nx := _, rt := Q }) (fun m σ' H' => ∃ (u : Int) (place : Nat) (o6 : Option V), m = muE bds rs c u ∧ σ' = [some (.ref b), some (.int t), some (.int c), some (.ref q), some (.int u), some (.int (place : Int)), o6] ∧ t ≤ u ∧ (∀ x, t ≤ x → x < u → ¬ OkU bds rs c x) ∧ place ≤ plc rs u ∧ LamX.ExtN H2 H' ∧ NdefX.TabsN Tb H' ∧ H' q = some (.lst (refs ms)) ∧ Mts cJM cWM (bvT bds rs place) ms H') (muE bds rs c t)
      ⟨t, 0, none, rfl, rfl, Int.le_refl _, fun x h1 h2 => absurd h1 (by omega), Nat.zero_le _, Ex.extN e25, hT.ext (e02.trans e25), e35 _ _ hq, M.mono e35⟩ fun m σ' H' ⟨u, place, o6, em, hσ, tu, no, hp, e, t', hq', MM⟩ => ⟨true, et_B ev_c, fun _ H6 e6 => ?_, fun z => by cases z⟩
    subst hσ
    have eH6 := e.trans (Ex.extN e6)
    have hob6 : H6 b = some (.ins cB dx (fBook lb lr)) := eH6 _ _ hob fun _ z => by cases z
    refine ⟨fun σ2 H7 => ∃ (u2 : Int) (o6 : Option V), muE bds rs c u2 < muE bds rs c u ∧ σ2 = [some (.ref b), some (.int t), some (.int c), some (.ref q), some (.int u2), some (.int (plc rs u : Nat)), o6] ∧ t ≤ u2 ∧ (∀ x, t ≤ x → x < u2 → ¬ OkU bds rs c x) ∧ plc rs u ≤ plc rs u2 ∧ LamX.ExtN H2 H7 ∧ NdefX.TabsN Tb H7 ∧ H7 q = some (.lst (refs ms)) ∧ Mts cJM cWM (bvT bds rs (plc rs u)) ms H7, fun σ2 H7 ⟨u2, o6, hmu, hσ, a1, a2, a3, a4, a5, a6, a7⟩ => ⟨_, by rw [em]; exact hmu, u2, _, o6, rfl, hσ, a1, a2, a3, a4, a5, a6, a7⟩, ?_⟩
    refine ⟨_, rfl, b, dx, _, rfl, hob6, rfl, _, rfl, _, rfl, _, rfl, b, q, lb, lr, place, u, bds, rs, ms, H2, rfl, B2, eH6, e6 _ _ hq', MM.mono e6, bok, ok, by omega, hp, fr, fun H7 e7 k7 M7 => ?_⟩
    have hq7 := k7 q _ (fun m hm hx => (fr m hm q hx).2 rfl) (e6 _ _ hq')
    have t7 : NdefX.TabsN Tb H7 := tabs_feet (t'.ext e6) (mts_kind (MM.mono e6)) k7
    dsimp only [gName]
    have ft := fit_t (bds := bds) bok ok (show rs.length ≤ 300 by omega) (Int.le_refl u)
    refine q_asg (v := opV (waitAllV u c (bvT bds rs (plc rs u)) 0)) (ev_callF (ea_cons (ev_var rfl) (ea_cons (ev_var rfl) (ea_cons (ev_var rfl) ea_nil))) fun H8 e8 => ⟨q, _, ms, u, c, rfl, sq_of (e8 _ _ hq7), M7.mono e8, ft, c1, rfl⟩) fun H8 e8 => ?_
    have e28 := e7.trans (Ex.extN e8)
    have hob8 : H8 b = some (.ins cB dx (fBook lb lr)) := e28 _ _ hob fun _ z => by cases z
    have hP8 : PairsT H8 lr rs := exN_pairs e28 B2.rows
    cases hw : waitAllV u c (bvT bds rs (plc rs u)) 0 with
    | none =>
      refine q_when (b := true) (et_B (ev_isN (ev_var (v := .non) rfl))) (fun _ H9 e9 => ?_) fun z => by cases z
      refine s_ret (v := .non) ev_c fun HA eA => qq none HA ?_ (E0'.trans (e28.trans (Ex.extN (e9.trans eA)))) ((t7.ext e8).ext (e9.trans eA))
      show ∀ x, t ≤ x → ¬ OkU bds rs c x
      intro x hx
      by_cases z : x < u
      · exact no x hx z
      · exact never_ bok ok (by omega) hw (by omega)
    | some n =>
      have n0 := waitAllV_nn hw
      refine q_when (b := false) (et_B (ev_isN (ev_var (v := .int n) rfl))) (fun z => by cases z) fun _ H9 e9 => ?_
      by_cases np : 0 < n
      · refine s_if (b := true) (et_is (et_test (ev_op (ev_var (v := .int n) rfl) ev_c rv_I0)) (decide_eq_true (by omega))) (fun _ HA eA => ?_) fun z => by cases z
        refine s_aug (a := u) (b := n) rfl (ev_var (v := .int n) rfl) fun HB eB => ⟨u + n, _, mu_wait bok ok (by omega) hw np, rfl, by omega, fun x h1 h2 => ?_, plc_mono ok (by omega), e28.trans (Ex.extN ((e9.trans eA).trans eB)), (t7.ext e8).ext ((e9.trans eA).trans eB), ((e8.trans e9).trans (eA.trans eB)) _ _ hq7, M7.mono ((e8.trans e9).trans (eA.trans eB))⟩
        by_cases z : x < u
        · exact no x h1 z
        · exact not_yet bok ok (by omega) hw (by omega) h2
      · obtain rfl : n = 0 := by omega
        refine s_if (b := false) (et_is (et_test (ev_op (ev_var (v := .int 0) rfl) ev_c rv_I0)) (decide_eq_false (by omega))) (fun z => by cases z) fun _ HA eA => ?_
        have e8A := e9.trans eA
        have e2A := e28.trans (Ex.extN e8A)
        have BA := B2.exN e2A
        refine ⟨_, rfl, b, dx, _, rfl, e8A _ _ hob8, rfl, _, rfl, _, rfl, b, lb, lr, bds, rs, u, c, rfl, BA, bok, h4, ok, by omega, c1, (t7.ext e8).ext e8A, fun HB eB tB => ⟨_, rfl, ?_⟩⟩
        cases hkb : keptB bds rs u c with
        | true =>
          rw [if_pos rfl]
          refine s_ret (v := .int u) (ev_var rfl) fun HC eC => qq (some u) HC ⟨tu, (keptB_iff bok ok c1).mp hkb, no⟩ (E0'.trans (e2A.trans (eB.trans (Ex.extN eC)))) (tB.ext eC)
        | false =>
          rw [if_neg (show ¬ (false = true) by decide)]
          have nok : ¬ OkU bds rs c u := fun z => by
            rw [(keptB_iff bok ok c1).mpr z] at hkb
            cases hkb
          obtain ⟨pl, jmp⟩ := jump_ bok ok hk hw nok
          have e2B := e2A.trans eB
          have hobB : HB b = some (.ins cB dx (fBook lb lr)) := e2B _ _ hob fun _ z => by cases z
          have hPB : PairsT HB lr rs := exN_pairs e2B B2.rows
          have hqA := (e8.trans e8A) _ _ hq7
          refine s_asg (v := .int (mom rs (plc rs u) + 1)) (ev_op (ev_pair0 (i := ((plc rs u : Nat) : Int)) (ev_fld (ev_var rfl) hobB cl n2 rfl) (ev_var rfl) hPB (by omega) (by rw [Int.toNat_natCast]; exact getD_some pl)) ev_c rv_I0) fun HC eC => ⟨mom rs (plc rs u) + 1, _, mu_jump ok pl, rfl, ?_, fun x h1 h2 => ?_, ?_, e2B.trans (Ex.extN eC), tB.ext eC, eC _ _ (exN_lst eB hqA), ?_⟩
          · have := plc_next rs u pl
            omega
          · by_cases z : x < u
            · exact no x h1 z
            · exact jmp x (by omega) (by omega)
          · have := plc_past ok pl
            omega
          · exact (mts_exN eB (M7.mono (e8.trans e8A))).mono eC
end
/-! the law's own book: what is broken first, the row with a visit more, the kind of a refusal -/
section
variable {te : TE} {t : TS} {u : TS} {σ : L2.St} {H : Hp} {W W' : V → Hp → Prop} {P : L2.St → Prop} {i : Nat}
theorem nxp_asgW (h : EvW te σ H W) (k : ∀ v H1, Ex H H1 → W v H1 → NxP u (σ.set i (some v)) H1 P) : NxP (tSeq (tAsg te (gName i)) u) σ H P := fun H1 e D q => h H1 e _ fun v H2 e2 w => k v H2 (e.trans e2) w H2 (Ex.refl _) D fun σ' H3 e3 p => q σ' H3 (e2.trans e3) p
theorem rtw_asgW (h : EvW te σ H W) (k : ∀ v H1, Ex H H1 → W v H1 → RtW u (σ.set i (some v)) H1 W') : RtW (tSeq (tAsg te (gName i)) u) σ H W' := fun H1 e D q => h H1 e _ fun v H2 e2 w => k v H2 (e.trans e2) w H2 (Ex.refl _) D fun v' H3 e3 p => q v' H3 (e2.trans e3) p
theorem rtw_asgL {xs : List V} (h : EvL te σ H xs) (k : ∀ p H1, H p = none → Ex H H1 → H1 p = some (.lst xs) → RtW u (σ.set i (some (.ref p))) H1 W') : RtW (tSeq (tAsg te (gName i)) u) σ H W' := fun H1 e D q => h H1 e _ fun p H2 np e2 hp => k p H2 (fresh_back e np) (e.trans e2) hp H2 (Ex.refl _) D fun v' H3 e3 p => q v' H3 (e2.trans e3) p
end
def FV (r : Option (Nat × Int × Int)) (v : V) (H : Hp) : Prop := match r with
  | none => v = .non
  | some (k, q) => ∃ t p, v = .ref t ∧ H t = some (.tup [.int (k : Nat), .ref p]) ∧ H p = some (.tup [.int q.1, .int q.2])
theorem FV.mono {r : Option (Nat × Int × Int)} {v : V} {H H' : Hp} (e : Ex H H') (h : FV r v H) : FV r v H' := by
  match r, h with
  | none, h => exact h
  | some (k, q), ⟨t, p, h1, h2, h3⟩ => exact ⟨t, p, h1, e _ _ h2, e _ _ h3⟩
def Tups (H : Hp) (ts : List Addr) (bds : List Bd) : Prop := Paired (fun (bd : Bd) t => H t = some (.tup bd.tup)) bds ts
theorem Tups.mono {H H' : Hp} {ts : List Addr} {bds : List Bd} (e : Ex H H') (h : Tups H ts bds) : Tups H' ts bds := paired_imp h fun _ _ z => e _ _ z
def RBrks (vs : List V) (H : Hp) (W : V → Hp → Prop) : Prop := ∃ lb lv ts bds rs, vs = [.ref lb, .ref lv] ∧ H lb = some (.lst (ts.map V.ref)) ∧ Tups H ts bds ∧ PairsT H lv rs ∧ VOk rs ∧ (∀ bd ∈ bds, bd.ok) ∧ bds.length ≤ 4 ∧ rs.length ≤ 300 ∧ W = FV (fstB bds rs 0)
section
variable {P : Program} {w : World} {K : PySem.W.Frag} {mg : Str → Option Value} {base : Heap} {cJ cW cB cG : Addr} {cs : Nat → Addr} {Tb : List NdefX.NTab}
theorem firstW {tp tv : TE} {σ : L2.St} {H : Hp} {p l : Addr} {bd : Bd} {rs : VS} (h1 : Ev tp σ H (.ref p)) (h2 : Ev tv σ H (.ref l)) (hp : H p = some (.tup bd.tup)) (hP : PairsT H l rs) (ok : VOk rs) (bok : bd.ok) (hn : rs.length ≤ 300) : EvW (tCall (spW RLF) [] C8.E0 (tCons tp (tCons tv tNil))) σ H (VR (brkF bd rs)) :=
  EvW.imp (evw_callW (ea_cons h1 (ea_cons h2 ea_nil)) fun H1 e => ⟨p, l, bd, rs, rfl, e _ _ hp, hP.mono e, bok, hn, rfl⟩) fun v H1 _ ⟨r, hr, hv⟩ => by
    rw [first_one ok (brkF_is bd rs) hr]
    exact hv
theorem cal_Lbreaks {f : Addr} {fd : FuncData} (T : Blt mg) (c_Lfirst : C8.Cal P w K mg base 2 "_law_first" (spW RLF) []) (F : C8.Def K mg "_law_breaks" s_Lbreaks f fd) (b : Binds K fd ["_law_bounds", "_law_visits"] []) : C8.Cal P w K mg base 3 "_law_breaks" (spW RBrks) [] := by
  refine calW F b sc_Lbreaks (fun vs H v h => ?_) (fun cdv A outer s H vs W E hr h => ?_)
  · obtain ⟨lb, lv, ts, bds, rs, rfl, _⟩ := h
    rfl
  · obtain ⟨lb, lv, ts, bds, rs, rfl, hl, ht, hP, ok, bok, h4, hn, rfl⟩ := h
    refine ⟨_, (pss_cons (ps_for PassesOwn.never rfl (pi_range1 rfl T.b_range (pa_cons (pe_callB call_len_seq (by rfl) T.b_len boot_len (pa_cons (pv 0) pa_nil)) pa_nil)) (pg_name (i := 2) sc_Lbreaks.nd rfl (Or.inl rfl))
    (pss_cons (ps_set (i := 3) sc_Lbreaks.nd rfl (Or.inl rfl) (C8.pe_c c_Lfirst hr (by decide) rfl (pa_cons (pe_ix ix_list (pv 0) (pv 2) (fun _ _ => rfl)) (pa_cons (pv 1) pa_nil))))
    (pss_one (ps_if (pt_cmp (pc_notN (pv 3)))
      (pss_one (ps_ret (pe_tup (pa_cons (pv 2) (pa_cons (pv 3) pa_nil)))))
      pss_nil))))
  (pss_one (ps_ret pe_non))), ?_⟩
    have len := Paired.length ht
    have hml : (ts.map V.ref).length = bds.length := by rw [List.length_map]; exact len.symm
    refine rtwp_for (fun i σ => ∃ o2 o3, σ = [some (.ref lb), some (.ref lv), o2, o3] ∧ fstB bds rs 0 = fstB (bds.drop i) rs i) ⟨none, none, rfl, rfl⟩ (ei_r1 (n := (bds.length : Int)) (ea_cons (ev_is (ev_lenL (K := K) (ev_var rfl) (sq_of hl)) (by rw [hml])) ea_nil) (by omega) (by omega)) (fun i σ hi ⟨o2, o3, hσ, hf⟩ => ?_) fun σ ⟨o2, o3, hσ, hf⟩ => ?_
    · subst hσ
      rw [Int.toNat_natCast] at hi
      have hbd : bds[i]? = some bds[i] := List.getElem?_eq_getElem hi
      have hti : i < ts.length := by rw [← len]; exact hi
      obtain ⟨bd, hbd', hT⟩ := paired_at ht (List.getElem?_eq_getElem hti)
      rw [hbd] at hbd'
      cases hbd'
      have bdok := bok _ (List.mem_of_getElem? hbd)
      have call : EvW (tCall (spW RLF) [] C8.E0 (tCons (tOp (rIxL K) (tVar 0) (tVar 2)) (tCons (tVar 1) tNil))) [some (.ref lb), some (.ref lv), some (.int (0 + (i : Int))), o3] H (VR (brkF bds[i] rs)) :=
        firstW (ev_ixL (i := (i : Int)) (ev_var rfl) (ev_is (ev_var rfl) (by rw [Int.zero_add])) (sq_of hl) (atI_nat (by rw [List.getElem?_map, List.getElem?_eq_getElem hti]; rfl))) (ev_var rfl) hT hP ok bdok hn
      cases hz : brkF bds[i] rs with
      | none =>
        rw [hz] at call
        refine .inl (gnxp_name (nxp_asgW call fun v H1 e1 hv => ?_))
        have ev : v = .non := hv
        subst ev
        exact nxp_if (b := false) (et_B (ev_notN (ev_var (v := .non) rfl))) (fun z => by cases z) fun _ => nxp_of nx_next ⟨_, _, rfl, by rw [hf, drop_at hbd, fstB_no hz]⟩
      | some q =>
        rw [hz] at call
        refine .inr (grtw_name2 (rtw_asgW call fun v H1 e1 hv => ?_))
        obtain ⟨p, ev, hp⟩ := hv
        subst ev
        refine rtw_if (b := true) (et_B (ev_notN (ev_var (v := .ref p) rfl))) (fun _ => ?_) fun z => by cases z
        refine rtw_ret (EvW.imp (evw_tup (eu_tup (vs := [.int (i : Nat), .ref p]) (ea_cons (ev_is (ev_var rfl) (by rw [Int.zero_add])) (ea_cons (ev_var rfl) ea_nil)) (show 2 ≤ 100000 by decide))) fun v H2 e2 ⟨t, ev, hv⟩ => ?_)
        rw [hf, drop_at hbd, fstB_yes hz]
        exact ⟨t, p, ev, hv, e2 _ _ hp⟩
    · subst hσ
      rw [Int.toNat_natCast, List.drop_length] at hf
      refine rtw_ret (evw_v ev_c fun H1 e => ?_)
      rw [hf]
      rfl
theorem filter_lt : ∀ (n p : Nat) (f : Nat → Bool), p ≤ n → (∀ i, i < n → f i = decide (i < p)) → (List.range n).filter f = List.range p
  | 0, p, f, h, _ => by
    obtain rfl : p = 0 := by omega
    rfl
  | n + 1, p, f, h, k => by
    rw [List.range_succ, List.filter_append]
    by_cases e : p = n + 1
    · rw [filter_lt n n f (Nat.le_refl _) fun i hi => by rw [k i (by omega), e, decide_eq_true (show i < n + 1 by omega), decide_eq_true hi], e, List.range_succ]
      have z : f n = true := by rw [k n (by omega), e]; exact decide_eq_true (Nat.lt_succ_self _)
      rw [List.filter_cons, if_pos z]
      rfl
    · rw [filter_lt n p f (by omega) fun i hi => k i (by omega)]
      have z : f n = false := by rw [k n (by omega)]; exact decide_eq_false (by omega)
      rw [List.filter_cons, if_neg (by rw [z]; exact fun w => by cases w), List.filter_nil, List.append_nil]
theorem range_take (ps : List Addr) (p : Nat) (h : p ≤ ps.length) : (List.range p).map (fun i => (ps.map V.ref).getD i .non) = (ps.take p).map V.ref := by
  apply List.ext_getElem
  · rw [List.length_map, List.length_range, List.length_map, List.length_take]
    omega
  · intro i h1 h2
    rw [List.length_map, List.length_range] at h1
    have hi : i < ps.length := by omega
    rw [List.getElem_map, List.getElem_range, List.getElem_map, List.getElem_take, List.getD_eq_getElem?_getD, List.getElem?_map, List.getElem?_eq_getElem hi]
    rfl
theorem cal_Lwith {f : Addr} {fd : FuncData} (T : Blt mg) (F : C8.Def K mg "_law_with" s_Lwith f fd) (b : Binds K fd ["_law_visits", "_law_moment", "_law_cost_here"] []) : C8.Cal P w K mg base 1 "_law_with" (spW RRow) [] := by
  refine calW F b sc_Lwith (fun vs H v h => ?_) (fun cdv A outer s H vs W E hr h => ?_)
  · obtain ⟨l, rs, t, c, H0, rfl, _⟩ := h
    rfl
  · obtain ⟨l, rs, t, c, H0, rfl, hP, ok, hn, e0, rfl⟩ := h
    refine ⟨_, (pss_cons (ps_setLc (i := 3) (own := [("_law_one", 4)]) (g := gName 4) rfl sc_Lwith.nd rfl rfl (sw_true rfl rfl rfl (by decide +kernel)) (pi_list (pv 0)) (blkOk_by (own := [("_law_one", 4)]) (N := ["_law_visits", "_law_moment", "_law_cost_here", "_law_ahead", "_law_one"]) (sc := C8.fnScope s_Lwith) (by decide +kernel)) (fun _ _ _ _ _ => pg_name (i := 4) sc_Lwith.nd rfl (Or.inl rfl)) (fun _ _ _ _ _ => pts_one (pt_cmpR op_le (pe_ix (show IxR _ (rIxT K) from ix_tup) (pv 4) pe_int (fun _ _ => rfl)) (pv 1) (nomark _))) (fun _ _ _ _ _ => (pv 4)))
  (pss_one (ps_ret (pe_op op_cat (pe_op op_cat (pv 3) (pe_lst (pa_cons (pe_tup (pa_cons (pv 1) (pa_cons (pv 2) pa_nil))) pa_nil))) (pe_slice sl_list (pv 0) (po_some (pe_callB call_len_seq (by rfl) T.b_len boot_len (pa_cons (pv 3) pa_nil))) po_none))))), ?_⟩
    have hp := plc_le rs t
    obtain ⟨ps, hl, hps⟩ := id hP
    have plen := hps.len
    have lc := el_lcL (K := K) (σ := [some (.ref l), some (.int t), some (.int c), none, none]) (H := H) (j := 4) (vs := [4]) (tl := tVar 0) (te := tVar 4) (t := tTest (tOp (rI0 fun i j => V.bl (decide (i ≤ j))) (tOp (rIxT K) (tVar 4) (tC (.int 0))) (tVar 1))) (fun i => decide (mom rs i ≤ t)) (fun i => (ps.map V.ref).getD i .non) (ev_var rfl) (sq_of hl) (by rw [List.length_map]; omega) (fun x => rfl) (fun j x H1 e hx => by
      rw [List.getElem?_map] at hx
      obtain ⟨pa, hpa, rfl⟩ := Option.map_eq_some_iff.mp hx
      have hj : j < rs.length := by
        rw [← plen]
        exact (List.getElem?_eq_some_iff.mp hpa).1
      obtain ⟨pa', hpa', hTp⟩ := hps.at (getD_some hj)
      rw [hpa] at hpa'
      cases hpa'
      exact et_test (ev_op (ev_ixT (K := K) (v := .int (mom rs j)) (ev_var (v := .ref pa) rfl) ev_c (st_of (e _ _ hTp)) rfl) (ev_var (v := .int t) rfl) rv_I0)) (fun j x H1 e hx _ => ev_is (ev_var rfl) (by
      rw [List.getD_eq_getElem?_getD, hx]
      rfl))
    have cnt : (given (ps.map V.ref).length (fun i => decide (mom rs i ≤ t)) fun i => (ps.map V.ref).getD i .non) = (ps.take (plc rs t)).map V.ref := by
      unfold given
      rw [List.length_map, plen, filter_lt rs.length (plc rs t) _ hp (fun i hi => ?_), range_take ps _ (by omega)]
      by_cases z : i < plc rs t
      · rw [decide_eq_true z]
        exact decide_eq_true (plc_ahead rs t i z)
      · rw [decide_eq_false z]
        have := plc_behind (t := t) ok (show plc rs t ≤ i by omega) hi
        exact decide_eq_false (by omega)
    rw [cnt] at lc
    refine rtw_asgL lc fun p1 H1 _ e1 hp1 => ?_
    refine rtw_ret fun H2 e2 Q q => ?_
    have e12 := e1.trans e2
    have hl2 := e12 _ _ hl
    have hps2 := hps.mono e12
    have sl2 : EvL (tSl (rSlL K) (tVar 0) (tPart (tCB (fun xs H Q => ∃ p ys, xs = [.ref p] ∧ (SqL K H p ys ∨ SqT K H p ys) ∧ Q (.int ys.length) H) (tCons (tVar 3) tNil))) tNoPart) [some (.ref l), some (.int t), some (.int c), some (.ref p1), none] H2 ((ps.drop (plc rs t)).map V.ref) := by
      have ln : Ev (tCB (fun xs H Q => ∃ p ys, xs = [.ref p] ∧ (SqL K H p ys ∨ SqT K H p ys) ∧ Q (.int ys.length) H) (tCons (tVar 3) tNil)) [some (.ref l), some (.int t), some (.int c), some (.ref p1), none] H2 (.int ((plc rs t : Nat) : Int)) := ev_is (ev_lenL (K := K) (ev_var rfl) (sq_of (e2 _ _ hp1))) (by rw [List.length_map, List.length_take, show min (plc rs t) ps.length = plc rs t by omega])
      have z := el_sl (K := K) (σ := [some (.ref l), some (.int t), some (.int c), some (.ref p1), none]) (H := H2) (lo := some ((plc rs t : Nat) : Int)) (hi := none) (te := tVar 0) (tl := tPart (tCB (fun xs H Q => ∃ p ys, xs = [.ref p] ∧ (SqL K H p ys ∨ SqT K H p ys) ∧ Q (.int ys.length) H) (tCons (tVar 3) tNil))) (th := tNoPart) (ev_var rfl) (eo_some ln) eo_none (sq_of hl2)
      rw [sl_drop _ _ (by rw [List.length_map]; omega), ← List.map_drop] at z
      exact z
    have tp : EvU (tTup (tCons (tVar 1) (tCons (tVar 2) tNil))) [some (.ref l), some (.int t), some (.int c), some (.ref p1), none] H2 [.int t, .int c] := eu_tup (ea_cons (ev_var rfl) (ea_cons (ev_var rfl) ea_nil)) (show 2 ≤ 100000 by decide)
    refine ⟨_, rfl, ?_⟩
    refine lstE_go (tconsU9 tp fun pt H3 _ e3 hpt => ?_)
    refine ⟨(by show 1 ≤ sizeLine; decide), fun p2 np2 => ?_⟩
    have e4 := Ex.new (o := HO.lst [.ref pt]) np2
    refine ⟨p1, p2, _, _, rfl, rfl, e4 _ _ (e3 _ _ (e2 _ _ hp1)), upd_same, sz_of (by rw [List.length_map, List.length_take]; show _ + 1 ≤ _; omega), fun p3 np3 => ?_⟩
    have e5 := Ex.new (o := HO.lst ((ps.take (plc rs t)).map V.ref ++ [.ref pt])) np3
    have e15 := e3.trans (e4.trans e5)
    refine sl2 _ e15 _ fun p4 H6 _ e6 hp4 => ?_
    refine ⟨p3, p4, _, _, rfl, rfl, e6 _ _ upd_same, hp4, sz_of (by rw [List.length_append, List.length_map, List.length_take, List.length_map, List.length_drop]; show _ + 1 + _ ≤ _; omega), fun p5 np5 => ?_⟩
    have e7 := Ex.new (o := HO.lst (((ps.take (plc rs t)).map V.ref ++ [.ref pt]) ++ (ps.drop (plc rs t)).map V.ref)) np5
    have eall := (e15.trans e6).trans e7
    refine q _ _ eall ⟨p5, rfl, fresh_back ((e0.trans e12).trans (e15.trans e6)) np5, ps.take (plc rs t) ++ pt :: ps.drop (plc rs t), ?_, Prs.ins (hps2.mono eall) ((e4.trans (e5.trans (e6.trans e7))) _ _ hpt)⟩
    rw [upd_same, List.map_append, List.map_cons, List.append_assoc]
    rfl
end
/-! lists of the law's tuples, of bounds -/
def TupP (f : Nat → Bd) (i : Nat) (v : V) (H : Hp) : Prop := ∃ t, v = .ref t ∧ H t = some (.tup (f i).tup)
theorem TupP.mono {f : Nat → Bd} (i : Nat) (v : V) (H H' : Hp) (e : Ex H H') (h : TupP f i v H) : TupP f i v H' := h.imp fun t z => ⟨z.1, e _ _ z.2⟩
theorem TupP.nol {f : Nat → Bd} (i : Nat) (v : V) (H : Hp) (D : Addr) (xs ys : List V) (hD : H D = some (.lst xs)) (h : TupP f i v H) : TupP f i v (upd H D (.lst ys)) := h.imp fun t z => ⟨z.1, by rw [upd_ne (ne_of z.2 hD (by intro h; cases h))]; exact z.2⟩
/-- a list of such tuples -/
theorem tups_of {f : Nat → Bd} {xs : List V} {n : Nat} {H : Hp} (hl : xs.length = n) (hP : ∀ i x, xs[i]? = some x → TupP f i x H) : ∃ ts : List Addr, xs = ts.map V.ref ∧ Tups H ts ((List.range n).map f) := by
  refine ⟨xs.map fun x => match x with | .ref y => y | _ => 0, ?_, paired_of (by rw [List.length_map, List.length_map, List.length_range, hl]) fun i bd y h1 h2 => ?_⟩
  · rw [List.map_map]
    refine List.ext_getElem (by rw [List.length_map]) fun i h1 h2 => ?_
    obtain ⟨y, a, _⟩ := hP i xs[i] (List.getElem?_eq_getElem h1)
    rw [List.getElem_map, a]
    rfl
  · rw [List.getElem?_map] at h1 h2
    obtain ⟨x, hx, rfl⟩ := Option.map_eq_some_iff.mp h2
    obtain ⟨j, hj, rfl⟩ := Option.map_eq_some_iff.mp h1
    obtain ⟨y, rfl, z⟩ := hP i x hx
    obtain ⟨hlt, e⟩ := List.getElem?_eq_some_iff.mp hj
    rw [List.getElem_range] at e
    rw [← e]
    exact z
theorem bound_ok {c sc : Int} (h : 0 ≤ c) (h1 : 1 ≤ sc) (h2 : sc ≤ 40000000) : (boundV c sc).ok := by
  have b := bound_in h h1 h2
  cases e : boundV c sc with
  | jar m f =>
    rw [e] at b
    obtain ⟨b1, b2, b3, b4, _⟩ := b
    have b2 : m ≤ 1000000000 := b2
    exact ⟨b1, by omega, b3, b4⟩
  | win m s =>
    rw [e] at b
    obtain ⟨b1, b2, b3, b4, b5⟩ := b
    have b2 : m ≤ 1000000000 := b2
    have b4 : s ≤ 1000000000 := b4
    exact ⟨b1, by omega, b5 m s rfl, by omega⟩
def BdP (cJ cW : Addr) (f : Nat → Bd) (i : Nat) (v : V) (H : Hp) : Prop := ∃ y, v = .ref y ∧ BdAt cJ cW (f i) y H
theorem BdP.mono {cJ cW : Addr} {f : Nat → Bd} (i : Nat) (v : V) (H H' : Hp) (e : Ex H H') (h : BdP cJ cW f i v H) : BdP cJ cW f i v H' := h.imp fun y z => ⟨z.1, z.2.mono e⟩
theorem BdP.nol {cJ cW : Addr} {f : Nat → Bd} (i : Nat) (v : V) (H : Hp) (D : Addr) (xs ys : List V) (hD : H D = some (.lst xs)) (h : BdP cJ cW f i v H) : BdP cJ cW f i v (upd H D (.lst ys)) := h.imp fun y z => ⟨z.1, by
  have z2 := z.2
  cases e : f i with
  | jar s g =>
    rw [e] at z2
    obtain ⟨dy, hy⟩ := z2
    exact ⟨dy, by rw [upd_ne (ne_of hy hD (by intro h; cases h))]; exact hy⟩
  | win s g =>
    rw [e] at z2
    obtain ⟨dy, hy⟩ := z2
    exact ⟨dy, by rw [upd_ne (ne_of hy hD (by intro h; cases h))]; exact hy⟩⟩
theorem bds_of {cJ cW : Addr} {f : Nat → Bd} {xs : List V} {n : Nat} {H : Hp} (hl : xs.length = n) (hP : ∀ i x, xs[i]? = some x → BdP cJ cW f i x H) : ∃ ys : List Addr, xs = ys.map V.ref ∧ Paired (fun bd y => BdAt cJ cW bd y H) ((List.range n).map f) ys := by
  refine ⟨xs.map fun x => match x with | .ref y => y | _ => 0, ?_, paired_of (by rw [List.length_map, List.length_map, List.length_range, hl]) fun i bd y h1 h2 => ?_⟩
  · rw [List.map_map]
    refine List.ext_getElem (by rw [List.length_map]) fun i h1 h2 => ?_
    obtain ⟨y, a, _⟩ := hP i xs[i] (List.getElem?_eq_getElem h1)
    rw [List.getElem_map, a]
    rfl
  · rw [List.getElem?_map] at h1 h2
    obtain ⟨x, hx, rfl⟩ := Option.map_eq_some_iff.mp h2
    obtain ⟨j, hj, rfl⟩ := Option.map_eq_some_iff.mp h1
    obtain ⟨y, rfl, z⟩ := hP i x hx
    obtain ⟨hlt, e⟩ := List.getElem?_eq_some_iff.mp hj
    rw [List.getElem_range] at e
    rw [← e]
    exact z
def Bd.nm : Bd → Str
  | .jar _ _ => "jar"
  | .win _ _ => "window"
def Bd.mulc (k : Int) : Bd → Bd
  | .jar s f => .jar (s * k) f
  | .win m s => .win (m * k) s
theorem mulc_tup (k : Int) (b : Bd) : (b.mulc k).tup = [.str b.nm, .int (b.cap * k), .int b.two] := by cases b <;> rfl
theorem mulc_ok {c sc k : Int} (h : 0 ≤ c) (h1 : 1 ≤ sc) (h2 : sc ≤ 40000000) (hk : k = 1 ∨ k = 3 ∨ k = 5) : ((boundV c sc).mulc k).ok := by
  have b := bound_in h h1 h2
  cases e : boundV c sc with
  | jar m f =>
    rw [e] at b
    obtain ⟨b1, b2, b3, b4, _⟩ := b
    have b1 : 1 ≤ m := b1
    have b2 : m ≤ 1000000000 := b2
    show 1 ≤ m * k ∧ m * k ≤ 1000000000000000 ∧ 0 ≤ f ∧ f ≤ 1000000000
    rcases hk with rfl | rfl | rfl <;> exact ⟨by omega, by omega, b3, b4⟩
  | win m s =>
    rw [e] at b
    obtain ⟨b1, b2, b3, b4, b5⟩ := b
    have b1 : 1 ≤ m := b1
    have b2 : m ≤ 1000000000 := b2
    have b4 : s ≤ 1000000000 := b4
    have b5 := b5 m s rfl
    show 1 ≤ m * k ∧ m * k ≤ 1000000000000000 ∧ 1 ≤ s ∧ s ≤ 1000000000000
    rcases hk with rfl | rfl | rfl <;> exact ⟨by omega, by omega, by omega, by omega⟩
/-- [e for x in ..], its items by what holds of them: of no list -/
theorem evw_lcPF {Hb : Hp} {wi : TI} {te : TE} {σ : L2.St} {H : Hp} {items : Nat → V} {n j : Nat} {vs : List Nat} (P : Nat → V → Hp → Prop) (mono : ∀ i v H1 H2, Ex H1 H2 → P i v H1 → P i v H2) (nolst : ∀ i v H1 D xs ys, H1 D = some (.lst xs) → P i v H1 → P i v (upd H1 D (.lst ys)))
    (eb : Ex Hb H) (h : EvI wi σ H items n) (hn : n ≤ 40000) (hw : ∀ x, wipe ((wipe σ vs).set j (some x)) vs = wipe σ vs) (he : ∀ i H1, Ex H H1 → i < n → EvW te ((wipe σ vs).set j (some (items i))) H1 (P i)) :
    EvW (tLc wi (gName j) tYes te vs) σ H (fun v H2 => ∃ l xs, v = .ref l ∧ Hb l = none ∧ H2 l = some (.lst xs) ∧ xs.length = n ∧ ∀ i x, xs[i]? = some x → P i x H2) := fun H0 e0 Q q =>
  h H0 e0 _ fun J H1 e1 G => fun D nD => by
    refine ⟨fun i m H' => m = n - i ∧ i ≤ n ∧ Ex H1 H' ∧ ∃ xs : List V, H' D = some (.lst xs) ∧ xs.length = i ∧ ∀ k x, xs[k]? = some x → P k x H', ⟨n, by simp, Nat.zero_le _, Ex.new nD, [], upd_same, rfl, fun k x hx => by simp at hx⟩, ?_⟩
    rintro i m H' ⟨rfl, hi, e, xs, hD, hl, hP⟩
    by_cases hlt : i < n
    · refine .inr ⟨G.go i H' e hlt, fun H'' => i + 1 ≤ n ∧ Ex H1 H'' ∧ ∃ xs : List V, H'' D = some (.lst xs) ∧ xs.length = i + 1 ∧ ∀ k x, xs[k]? = some x → P k x H'', fun H'' p => ⟨n - (i + 1), by omega, rfl, p⟩, fun x H2 y => ?_⟩
      obtain ⟨rfl, rfl⟩ := G.yld i x H' H2 e hlt y
      refine ⟨hw _, ?_⟩
      refine yesT8 ?_
      refine he i H2 ((e0.trans e1).trans e) hlt H2 (Ex.refl _) _ fun v H3 e3 p => ?_
      have hD3 := e3 _ _ hD
      refine ⟨xs, hD3, sz_lt (by omega), hlt, (e.trans e3).mut nD, xs ++ [v], upd_same, by rw [List.length_append, hl]; rfl, fun k x hx => ?_⟩
      by_cases hk : k < xs.length
      · rw [List.getElem?_append_left hk] at hx
        exact nolst k x H3 D xs _ hD3 (mono k x _ _ e3 (hP k x hx))
      · rw [List.getElem?_append_right (by omega)] at hx
        have hk0 : k - xs.length = 0 := by
          have := (List.getElem?_eq_some_iff.mp hx).1
          simp at this
          omega
        rw [hk0] at hx
        obtain rfl : v = x := by simpa using hx
        obtain rfl : k = i := by omega
        exact nolst k v H3 D xs _ hD3 p
    · obtain rfl : i = n := by omega
      exact .inl ⟨G.stop _ e, q _ _ (e1.trans e) ⟨D, xs, rfl, fresh_back ((eb.trans e0).trans e1) nD, hD, hl, hP⟩⟩
/-! where the least moment can be -/
def cand (bd : Bd) (mk used : Int) : Option Int := match bd with
  | .win _ p => some (mk + p)
  | .jar s f => if f > 0 then some (mk + (used - s + f - 1) / f) else none
def Why (bd : Bd) (ms used E : Int) : Prop := match bd with
  | .win _ p => E = ms + p
  | .jar s f => 0 < f ∧ s + f * (E - 1 - ms) < used ∧ used ≤ s + f * (E - ms)
theorem early_why {bds : List Bd} {rs : VS} {t c E : Int} (bok : ∀ b ∈ bds, b.ok) (ok : VOk rs) (hk : ∀ b ∈ bds, KeepsM b rs) (h : EarlyIs bds rs t c (some E)) : E = t ∨ ∃ bd ∈ bds, ∃ s e, s ≤ e ∧ e < rs.length ∧ mom rs e ≤ E - 1 ∧ Why bd (mom rs s) (c + (tot rs (e + 1) - tot rs s)) E := by
  obtain ⟨h1, h2, h3⟩ := h
  by_cases et : E = t
  · exact .inl et
  refine .inr ?_
  have no := h3 (E - 1) (by omega) (by omega)
  have ex : ∃ bd ∈ bds, ∃ a b r, a ≤ E - 1 ∧ E - 1 ≤ b ∧ roomB bd a b = some r ∧ r < sumM rs a b + c := by
    refine Classical.byContradiction fun h => no fun bd hb => (keeps_ins (hk bd hb)).mpr fun a b r h1 h2 hr => ?_
    refine Classical.byContradiction fun z => h ⟨bd, hb, a, b, r, h1, h2, hr, by omega⟩
  obtain ⟨bd, hb, a, b, r, ha, hbE, hr, hlt⟩ := ex
  have okE := (keeps_ins (hk bd hb)).mp (h2 bd hb)
  obtain rfl : b = E - 1 := by
    by_cases z : E ≤ b
    · have := okE a b r (by omega) z hr
      omega
    · omega
  refine ⟨bd, hb, ?_⟩
  have bo := bok bd hb
  rcases sumM_at ok a (E - 1) with z | ⟨s, e, e1, e2, e3, e3', e4, e5⟩
  · exfalso
    have rp := (room_pos bo ha hr).1
    have nn := sumM_nn E E (cop_of ok)
    cases bd with
    | jar S f =>
      have q := okE E E (S + f * (E - E)) (Int.le_refl _) (Int.le_refl _) rfl
      rw [Int.sub_self, Int.mul_zero] at q
      have rp : S ≤ r := rp
      omega
    | win m p =>
      have p1 : 1 ≤ p := bo.2.2.1
      have q := okE E E m (Int.le_refl _) (Int.le_refl _) (by show (if E - E < p then some m else none) = some m; rw [if_pos (by omega)])
      have rp : m ≤ r := rp
      omega
  · refine ⟨s, e, e1, e2, e4, ?_⟩
    obtain ⟨r1, hr1, hle⟩ := room_le bo e3 e3' (Int.le_refl _) hr
    have ge : tot rs (e + 1) - tot rs s ≤ sumM rs (mom rs s) E := sumM_ge ok e1 e2 (Int.le_refl _) (by omega)
    cases bd with
    | win m p =>
      show E = mom rs s + p
      have hr1 : (if E - 1 - mom rs s < p then some m else none) = some r1 := hr1
      by_cases q1 : E - 1 - mom rs s < p
      · rw [if_pos q1] at hr1
        injection hr1 with hr1
        by_cases q2 : E - mom rs s < p
        · have := okE (mom rs s) E m (by omega) (Int.le_refl _) (by show (if E - mom rs s < p then some m else none) = some m; rw [if_pos q2])
          omega
        · omega
      · rw [if_neg q1] at hr1
        cases hr1
    | jar S f =>
      have f0 : 0 ≤ f := bo.2.2.1
      injection hr1 with hr1
      have q := okE (mom rs s) E (S + f * (E - mom rs s)) (by omega) (Int.le_refl _) rfl
      have lo : S + f * (E - 1 - mom rs s) < c + (tot rs (e + 1) - tot rs s) := by omega
      have hi : c + (tot rs (e + 1) - tot rs s) ≤ S + f * (E - mom rs s) := by omega
      refine ⟨?_, lo, hi⟩
      by_cases z : f = 0
      · subst z
        rw [Int.zero_mul] at lo hi
        omega
      · omega
theorem why_cand {bd : Bd} {ms used E : Int} (h : Why bd ms used E) : cand bd ms used = some E := by
  cases bd with
  | win m p =>
    have h : E = ms + p := h
    rw [h]
    rfl
  | jar S f =>
    obtain ⟨f0, lo, hi⟩ := h
    unfold cand
    show (if f > 0 then some (ms + (used - S + f - 1) / f) else none) = some E
    rw [if_pos f0]
    congr 1
    have e1 : f * (E - 1 - ms) = f * (E - ms) - f := by
      rw [show E - 1 - ms = E - ms - 1 by omega, Int.mul_sub, Int.mul_one]
    have up := cd_le (f := f) (e := used - S) (δ := E - ms) f0 (by omega)
    have dn : E - ms ≤ (used - S + f - 1) / f := Int.le_ediv_of_mul_le f0 (by rw [Int.mul_comm]; omega)
    omega
theorem early_cand {bds : List Bd} {rs : VS} {t c E : Int} (bok : ∀ b ∈ bds, b.ok) (ok : VOk rs) (hk : ∀ b ∈ bds, KeepsM b rs) (h : EarlyIs bds rs t c (some E)) : E = t ∨ ∃ bd ∈ bds, ∃ s e, s ≤ e ∧ e < rs.length ∧ cand bd (mom rs s) (c + (tot rs (e + 1) - tot rs s)) = some E := by
  rcases early_why bok ok hk h with z | ⟨bd, hb, s, e, h1, h2, _, h4⟩
  · exact .inl z
  · exact .inr ⟨bd, hb, s, e, h1, h2, why_cand h4⟩
/-- bounds of the law's small kind -/
def SmallB : Bd → Prop
  | .win _ p => p ≤ 40
  | .jar _ _ => True
theorem early_near {bds : List Bd} {rs : VS} {t c E L : Int} (bok : ∀ b ∈ bds, b.ok) (ok : VOk rs) (hk : ∀ b ∈ bds, KeepsM b rs) (sm : ∀ b ∈ bds, SmallB b) (c9 : c ≤ 9) (hL : t ≤ L) (hm : ∀ i, i < rs.length → mom rs i ≤ L) (h : EarlyIs bds rs t c (some E)) : E < L + 45 := by
  rcases early_why bok ok hk h with z | ⟨bd, hb, s, e, h1, h2, h3, h4⟩
  · omega
  · have ms := hm s (by omega)
    have me := hm e h2
    cases bd with
    | win m p =>
      have h4 : E = mom rs s + p := h4
      have : p ≤ 40 := sm _ hb
      omega
    | jar S f =>
      obtain ⟨f0, lo, hi⟩ := h4
      have kp := hk _ hb (mom rs s) (mom rs e) (S + f * (mom rs e - mom rs s)) (ok.mono s e h1 h2) rfl
      have ge := sumM_ge ok h1 h2 (Int.le_refl (mom rs s)) (Int.le_refl (mom rs e))
      have lt : f * (E - 1 - mom rs s) < c + f * (mom rs e - mom rs s) := by omega
      have e1 : f * (E - 1 - mom rs s) = f * (mom rs e - mom rs s) + f * (E - 1 - mom rs e) := by
        rw [← Int.mul_add]
        congr 1
        omega
      have lt2 : f * (E - 1 - mom rs e) < c := by omega
      by_cases z : E - 1 - mom rs e < 9
      · omega
      · have := Int.mul_le_mul (show (1 : Int) ≤ f by omega) (show (9 : Int) ≤ E - 1 - mom rs e by omega) (by decide) (by omega)
        omega
theorem fst_all : ∀ {bds : List Bd} {rs : VS} {k : Nat}, fstB bds rs k = none → ∀ bd ∈ bds, brkF bd rs = none
  | [], _, _, _, _, hb => by cases hb
  | b :: r, rs, k, h, bd, hb => by
    cases hz : brkF b rs with
    | some q =>
      rw [fstB_yes hz] at h
      cases h
    | none =>
      rw [fstB_no hz] at h
      rcases List.mem_cons.mp hb with z | z
      · rw [z]
        exact hz
      · exact fst_all h bd z
theorem fst_none : ∀ {bds : List Bd} {rs : VS} {k : Nat}, (∀ bd ∈ bds, brkF bd rs = none) → fstB bds rs k = none
  | [], _, _, _ => rfl
  | b :: r, rs, k, h => by
    rw [fstB_no (h b List.mem_cons_self)]
    exact fst_none fun bd hb => h bd (List.mem_cons_of_mem _ hb)
theorem fst_iff {bds : List Bd} {rs : VS} {c u : Int} (bok : ∀ b ∈ bds, b.ok) (ok : VOk rs) (hc : 1 ≤ c) : fstB bds (insB rs u c) 0 = none ↔ OkU bds rs c u := by
  rw [okU_iff bok ok hc]
  exact ⟨fst_all, fst_none⟩
theorem early_ex (bds : List Bd) (rs : VS) (t c : Int) : ∃ r, EarlyIs bds rs t c r := by
  by_cases h : ∃ u, t ≤ u ∧ OkU bds rs c u
  · obtain ⟨u, h1, h2⟩ := h
    have go : ∀ n : Nat, ∀ u, u - t = (n : Int) → OkU bds rs c u → ∃ r, EarlyIs bds rs t c r := fun n => by
      induction n using Nat.strongRecOn with
      | ind n ih =>
        intro u hn hu
        by_cases z : ∃ x, t ≤ x ∧ x < u ∧ OkU bds rs c x
        · obtain ⟨x, a, b, d⟩ := z
          exact ih (x - t).toNat (by omega) x (by omega) d
        · exact ⟨some u, by omega, hu, fun x a b d => z ⟨x, a, b, d⟩⟩
    exact go (u - t).toNat u (by omega) h2
  · exact ⟨none, fun u a b => h ⟨u, a, b⟩⟩
theorem early_one {bds : List Bd} {rs : VS} {t c : Int} {r r' : Option Int} (h : EarlyIs bds rs t c r) (k : EarlyIs bds rs t c r') : r = r' := by
  cases r with
  | none =>
    cases r' with
    | none => rfl
    | some e => exact absurd k.2.1 (h e k.1)
  | some e =>
    cases r' with
    | none => exact absurd h.2.1 (k e h.1)
    | some e' =>
      have a : ¬ e < e' := fun z => k.2.2 e h.1 z h.2.1
      have b : ¬ e' < e := fun z => h.2.2 e' k.1 z k.2.1
      rw [show e = e' by omega]
noncomputable def erl (bds : List Bd) (rs : VS) (t c : Int) : Option Int := Classical.choose (early_ex bds rs t c)
theorem erl_is (bds : List Bd) (rs : VS) (t c : Int) : EarlyIs bds rs t c (erl bds rs t c) := Classical.choose_spec (early_ex bds rs t c)
/-! the moments that the law tries -/
theorem evw_callVW {R : List V → Hp → (V → Hp → Prop) → Prop} {t1 t2 : TE} {σ : L2.St} {H : Hp} {E : XK} {v1 : V} {W2 W : V → Hp → Prop} (h1 : Ev t1 σ H v1) (h2 : EvW t2 σ H W2) (hR : ∀ v2 H1 H2, Ex H H1 → W2 v2 H1 → Ex H1 H2 → R [v1, v2] H2 W) : EvW (tCall (spW R) [] E (tCons t1 (tCons t2 tNil))) σ H W := fun H1 e Q q =>
  h1 H1 e _ fun H2 e2 => h2 H2 (e.trans e2) _ fun v2 H3 e3 w => ⟨W, fun H4 e4 => hR v2 H3 H4 ((e.trans e2).trans e3) w e4, fun v H4 e4 w4 => q v H4 ((e2.trans e3).trans e4) w4⟩
theorem ret_cb2 {r1 r2 : List V → Hp → VK → Prop} {te : TE} {D : Ends} {σ : L2.St} {H : Hp} (h : te σ H fun x H1 => r1 [x] H1 fun y H2 => r2 [y] H2 D.rt) : tRet (tCB r2 (tCons (tCB r1 (tCons te tNil)) tNil)) D σ H := h
theorem et_isNW {te : TE} {σ : L2.St} {H : Hp} {r : Option (Nat × Int × Int)} (h : EvW te σ H (FV r)) : EvT (tB (tIsN te)) σ H r.isNone := fun H1 e Q q =>
  h H1 e _ fun v H2 e2 w => ⟨_, rfl, by
    match r, w with
    | none, w =>
      have w : v = .non := w
      rw [w]
      exact q H2 e2
    | some (k, z), ⟨t, p, w, _, _⟩ =>
      rw [w]
      exact q H2 e2⟩
def RBegin10 (vs : List V) (H : Hp) (W : V → Hp → Prop) : Prop := ∃ lb lv ts bds rs t c, vs = [.ref lb, .ref lv, .int t, .int c] ∧ H lb = some (.lst (ts.map V.ref)) ∧ Tups H ts bds ∧ PairsT H lv rs ∧ (∀ bd ∈ bds, bd.ok) ∧ bds.length ≤ 4 ∧ rs.length ≤ 11 ∧
  W = fun v H2 => ∃ (p : Addr) (ns : List Int), v = .ref p ∧ H2 p = some (.lst (ns.map V.int)) ∧ (∀ x ∈ ns, t ≤ x) ∧ ns.Pairwise (· ≤ ·) ∧ t ∈ ns ∧ ∀ bd ∈ bds, ∀ s e, s ≤ e → e < rs.length → ∀ x, cand bd (mom rs s) (c + (tot rs (e + 1) - tot rs s)) = some x → t ≤ x → x ∈ ns
def Cov (bds : List Bd) (rs : VS) (c : Int) (ns : List Int) (s e : Nat) : Prop := ∀ bd ∈ bds, ∀ x, cand bd (mom rs s) (c + (tot rs (e + 1) - tot rs s)) = some x → x ∈ ns
theorem Cov.app {bds : List Bd} {rs : VS} {c : Int} {ns ms : List Int} {s e : Nat} (h : Cov bds rs c ns s e) : Cov bds rs c (ns ++ ms) s e := fun bd hb x hx => List.mem_append_left _ (h bd hb x hx)
section
variable {P : Program} {w : World} {K : PySem.W.Frag} {mg : Str → Option Value} {base : Heap}
theorem cal_Lbegins {f : Addr} {fd : FuncData} (T : Blt mg) (F : C8.Def K mg "_law_begins" s_Lbegins f fd) (b : Binds K fd ["_law_bounds", "_law_visits", "_law_moment", "_law_cost_here"] []) : C8.Cal P w K mg base 1 "_law_begins" (spW RBegin10) [] := by
  refine calW F b sc_Lbegins (fun vs H v h => ?_) (fun cdv A outer s H vs W E hr h => ?_)
  · obtain ⟨lb, lv, ts, bds, rs, t, c, rfl, _⟩ := h
    rfl
  · obtain ⟨lb, lv, ts, bds, rs, t, c, rfl, hl, ht, hP, bok, h4, hn, rfl⟩ := h
    refine ⟨_, (pss_cons (ps_set (i := 4) sc_Lbegins.nd rfl (Or.inl rfl) (pe_lst (pa_cons (pv 2) pa_nil)))
  (pss_cons (ps_for PassesOwn.never rfl (pi_range1 rfl T.b_range (pa_cons (pe_callB call_len_seq (by rfl) T.b_len boot_len (pa_cons (pv 1) pa_nil)) pa_nil)) (pg_name (i := 5) sc_Lbegins.nd rfl (Or.inl rfl))
    (pss_cons (ps_set (i := 6) sc_Lbegins.nd rfl (Or.inl rfl) (pv 3))
    (pss_cons (ps_expr (pe_bm PySem.F.plainAttrs_list PySem.F.slot_list_append PySem.F.type_list_append mt_append (pv 4) (pa_cons (pe_op op_add (pe_ix ix_tup (pe_ix ix_list (pv 1) (pv 5) (fun _ _ => rfl)) pe_int (fun _ _ => rfl)) pe_int) pa_nil)))
    (pss_one (ps_for PassesOwn.never rfl (pi_range2 rfl T.b_range (pa_cons (pv 5) (pa_cons (pe_callB call_len_seq (by rfl) T.b_len boot_len (pa_cons (pv 1) pa_nil)) pa_nil))) (pg_name (i := 7) sc_Lbegins.nd rfl (Or.inl rfl))
      (pss_cons (ps_set (i := 6) sc_Lbegins.nd rfl (Or.inl rfl) (pe_op op_add (pv 6) (pe_ix ix_tup (pe_ix ix_list (pv 1) (pv 7) (fun _ _ => rfl)) pe_int (fun _ _ => rfl))))
      (pss_one (ps_for PassesOwn.never rfl (pi_list (pv 0)) (pg_name (i := 8) sc_Lbegins.nd rfl (Or.inl rfl))
        (pss_one (ps_if (pt_cmpR op_eq (pe_ix ix_tup (pv 8) pe_int (fun _ _ => rfl)) pe_str (nomark _))
          (pss_one (ps_expr (pe_bm PySem.F.plainAttrs_list PySem.F.slot_list_append PySem.F.type_list_append mt_append (pv 4) (pa_cons (pe_op op_add (pe_ix ix_tup (pe_ix ix_list (pv 1) (pv 5) (fun _ _ => rfl)) pe_int (fun _ _ => rfl)) (pe_ix ix_tup (pv 8) pe_int (fun _ _ => rfl))) pa_nil))))
          (pss_one (ps_if (pt_cmpR op_gt (pe_ix ix_tup (pv 8) pe_int (fun _ _ => rfl)) pe_int (nomark _))
            (pss_one (ps_expr (pe_bm PySem.F.plainAttrs_list PySem.F.slot_list_append PySem.F.type_list_append mt_append (pv 4) (pa_cons (pe_op op_add (pe_ix ix_tup (pe_ix ix_list (pv 1) (pv 5) (fun _ _ => rfl)) pe_int (fun _ _ => rfl)) (pe_op op_fdiv (pe_op op_sub (pe_op op_add (pe_op op_sub (pv 6) (pe_ix ix_tup (pv 8) pe_int (fun _ _ => rfl))) (pe_ix ix_tup (pv 8) pe_int (fun _ _ => rfl))) pe_int) (pe_ix ix_tup (pv 8) pe_int (fun _ _ => rfl)))) pa_nil))))
            pss_nil))))))))))))
  (pss_one (ps_ret (pe_callB (cr_sortSetN rfl) (by rfl) T.b_sorted (by decide +kernel) (pa_cons (pe_callTy (cr_setI rfl) (by rfl) T.b_set PyProof.Rows.boot_set (pa_cons (pe_lc (own := [("_law_one", 9)]) (g := gName 9) rfl sc_Lbegins.nd (pi_list (pv 4)) (blkOk_by (own := [("_law_one", 9)]) (N := ["_law_bounds", "_law_visits", "_law_moment", "_law_cost_here", "_law_found", "_law_k", "_law_used", "_law_end", "_law_bound_here", "_law_one"]) (sc := C8.fnScope s_Lbegins) (by decide +kernel)) (fun _ _ _ _ _ => pg_name (i := 9) sc_Lbegins.nd rfl (Or.inl rfl)) (fun _ _ _ _ _ => pts_one (pt_cmpR op_ge (pv 9) (pv 2) (nomark _))) (fun _ _ _ _ _ => (pv 9))) pa_nil)) pa_nil)))))), ?_⟩
    intro H1 e1 D q
    have tl := Paired.length ht
    have hl1 := e1 _ _ hl
    have ht1 := ht.mono e1
    have hP1 := hP.mono e1
    refine q_asgL (xs := [.int t]) (el_lst (ea_cons (ev_var rfl) ea_nil) (by simp only [List.length_cons, List.length_nil]; omega)) fun f H2 nf e2 hf => ?_
    refine q_forR1 (n := (rs.length : Int)) (ea_cons (ev_lenP (K := K) (ev_var rfl) (hP1.mono e2)) ea_nil) (by omega) (fun i σ' H' => ∃ (ns : List Int) (o5 o6 o7 o8 : Option V), σ' = [some (.ref lb), some (.ref lv), some (.int t), some (.int c), some (.ref f), o5, o6, o7, o8, none] ∧ Ex H1 H' ∧ H' f = some (.lst (ns.map V.int)) ∧ ns.length ≤ 1 + 45 * i ∧ t ∈ ns ∧ ∀ s e, s < i → s ≤ e → e < rs.length → Cov bds rs c ns s e)
      (fun H3 e3 => ⟨[t], none, none, none, none, rfl, e2.trans e3, e3 _ _ hf, by simp, by simp, fun s e h => absurd h (Nat.not_lt_zero _)⟩) (fun i σ H3 hi ⟨ns, o5, o6, o7, o8, hσ, e3, hf3, hln, htn, cov⟩ => ?_) fun σ H3 ⟨ns, o5, o6, o7, o8, hσ, e3, hf3, hln, htn, cov⟩ => ?_
    · subst hσ
      have hi : i < rs.length := by omega
      refine q_asg (D := { nx := _, rt := D.rt, bk := _, ct := _ }) (v := .int c) (ev_var rfl) fun H4 e4 => ?_
      have e14 := e3.trans e4
      have gi := getD_some hi
      refine q_app (D := { nx := _, rt := D.rt, bk := _, ct := _ }) (v := .int (mom rs i + 1)) (e4 _ _ hf3) (ev_var rfl) (ev_op (ev_pair0 (K := K) (i := (i : Int)) (ev_var rfl) (ev_var rfl) (hP1.mono e14) (by omega) (by rw [Int.toNat_natCast]; exact gi)) ev_c rv_I0) (by rw [List.length_map]; omega) fun H5 e5 => ?_
      have e15 : Ex H1 (upd H5 f (.lst (ns.map V.int ++ [.int (mom rs i + 1)]))) := Ex.mut (e14.trans e5) nf
      have hf5 : upd H5 f (.lst (ns.map V.int ++ [.int (mom rs i + 1)])) f = some (.lst ((ns ++ [mom rs i + 1]).map V.int)) := by
        rw [upd_same, List.map_append]
        rfl
      generalize upd H5 f (.lst (ns.map V.int ++ [.int (mom rs i + 1)])) = H6 at e15 hf5
      have hle : i < rs.length := hi
      refine s_forR2 (D := { nx := _, rt := D.rt, bk := _, ct := _ }) (lo := (i : Int)) (n := (rs.length : Int)) (ea_cons (ev_var rfl) (ea_cons (ev_lenP (K := K) (ev_var rfl) (hP1.mono e15)) ea_nil)) (by omega) (fun j σ' H' => ∃ (ms : List Int) (o7 o8 : Option V), σ' = [some (.ref lb), some (.ref lv), some (.int t), some (.int c), some (.ref f), some (.int (i : Int)), some (.int (c + (tot rs (i + j) - tot rs i))), o7, o8, none] ∧ Ex H1 H' ∧ H' f = some (.lst ((ns ++ ms).map V.int)) ∧ ms.length ≤ 1 + 4 * j ∧ ∀ e, i ≤ e → e < i + j → Cov bds rs c (ns ++ ms) i e)
        (fun H7 e7 => ⟨[mom rs i + 1], o7, o8, by rw [Nat.add_zero, Int.sub_self, Int.add_zero]; rfl, e15.trans e7, e7 _ _ hf5, by simp, fun e h1 h2 => by omega⟩) (fun j σ H7 hj ⟨ms, o7, o8, hσ, e7, hf7, hlm, cv⟩ => ?_) fun σ H7 ⟨ms, o7, o8, hσ, e7, hf7, hlm, cv⟩ => ?_
      · subst hσ
        have hj : i + j < rs.length := by omega
        have gj := getD_some hj
        have stp : c + (tot rs (i + j) - tot rs i) + cst rs (i + j) = c + (tot rs (i + j + 1) - tot rs i) := by
          show _ = c + (tot rs (i + j) + cst rs (i + j) - tot rs i)
          omega
        refine q_asg (D := { nx := _, rt := D.rt, bk := _, ct := _ }) (v := .int (c + (tot rs (i + j + 1) - tot rs i))) (ev_is (ev_op (ev_var rfl) (ev_pair1 (K := K) (i := ((i + j : Nat) : Int)) (ev_var rfl) (ev_is (ev_var rfl) (by rw [Int.natCast_add])) (hP1.mono e7) (by omega) (by rw [Int.toNat_natCast]; exact gj)) rv_I0) (congrArg V.int stp)) fun H8 e8 => ?_
        have e18 := e7.trans e8
        refine s_forLn (K := K) (D := { nx := _, rt := D.rt, bk := _, ct := _ }) (a := lb) (xs := ts.map V.ref) (ev_var rfl) (sq_of (e18 _ _ hl1)) (fun bi σ' H' => ∃ (ms : List Int) (o8 : Option V), σ' = [some (.ref lb), some (.ref lv), some (.int t), some (.int c), some (.ref f), some (.int (i : Int)), some (.int (c + (tot rs (i + j + 1) - tot rs i))), some (.int ((i : Int) + (j : Int))), o8, none] ∧ Ex H1 H' ∧ H' f = some (.lst ((ns ++ ms).map V.int)) ∧ ms.length ≤ 1 + 4 * j + bi ∧ (∀ e, i ≤ e → e < i + j → Cov bds rs c (ns ++ ms) i e) ∧ ∀ bd ∈ bds.take bi, ∀ x, cand bd (mom rs i) (c + (tot rs (i + j + 1) - tot rs i)) = some x → x ∈ ns ++ ms)
          (fun H9 e9 => ⟨ms, o8, rfl, e18.trans e9, (e8.trans e9) _ _ hf7, by omega, cv, fun bd hb => by simp at hb⟩) (fun bi σ' H' _ ⟨ms, o8, hσ, e, _⟩ => sq_of (e _ _ hl1)) (fun bi x σ' H9 hx ⟨ms, o8, hσ, e9, hf9, hlm9, cv9, cb⟩ => ?_) fun σ' H9 ⟨ms, o8, hσ, e9, hf9, hlm9, cv9, cb⟩ => ?_
        · subst hσ
          rw [List.getElem?_map] at hx
          obtain ⟨tp, htp, rfl⟩ := Option.map_eq_some_iff.mp hx
          obtain ⟨bd, hbd, hT0⟩ := paired_at ht1 htp
          have hT := e9 _ _ hT0
          have hbi : bi < bds.length := (List.getElem?_eq_some_iff.mp hbd).1
          have bdok := bok bd (List.mem_of_getElem? hbd)
          have lnb : ((ns ++ ms).map V.int).length < 100000 := by rw [List.length_map, List.length_append]; omega
          have tk : ∀ (zs : List Int), (∀ x, cand bd (mom rs i) (c + (tot rs (i + j + 1) - tot rs i)) = some x → x ∈ ns ++ (ms ++ zs)) → ∀ bd' ∈ bds.take (bi + 1), ∀ x, cand bd' (mom rs i) (c + (tot rs (i + j + 1) - tot rs i)) = some x → x ∈ ns ++ (ms ++ zs) := fun zs hz bd' hb' x hx => by
            rw [List.take_succ, hbd] at hb'
            rcases List.mem_append.mp hb' with z | z
            · rw [← List.append_assoc]
              exact List.mem_append_left _ (cb bd' z x hx)
            · have : bd' = bd := by simpa using z
              rw [this] at hx
              exact hz x hx
          have mapp : ∀ z : Int, (ns ++ ms).map V.int ++ [V.int z] = (ns ++ (ms ++ [z])).map V.int := fun z => by
            rw [← List.append_assoc, List.map_append (l₁ := ns ++ ms)]
            rfl
          cases bd with
          | win m p =>
            have hT : SqT K H9 tp [.str "window", .int m, .int p] := st_of hT
            refine s_if (D := { nx := _, rt := D.rt, bk := _, ct := _ }) (b := true) (et_is (et_test (ev_op (ev_ixT (K := K) (v := .str "window") (ev_var (v := .ref tp) rfl) ev_c hT rfl) ev_c (rv_eq rfl))) (by decide +kernel)) (fun _ HA eA => ?_) fun z => by cases z
            refine s_app (D := { nx := _, rt := D.rt, bk := _, ct := _ }) (v := .int (mom rs i + p)) (eA _ _ hf9) (ev_var rfl) (ev_op (ev_pair0 (K := K) (i := (i : Int)) (ev_var rfl) (ev_var rfl) ((hP1.mono e9).mono eA) (by omega) (by rw [Int.toNat_natCast]; exact gi)) (ev_ixT (K := K) (v := .int p) (ev_var (v := .ref tp) rfl) ev_c (ex_t eA hT) rfl) rv_I0) lnb fun HB eB => ⟨ms ++ [mom rs i + p], _, rfl, Ex.mut ((e9.trans eA).trans eB) nf, by rw [upd_same, mapp], by rw [List.length_append]; simp; omega, fun e h1 h2 => ?_, tk _ fun x hx => ?_⟩
            · rw [← List.append_assoc]
              exact (cv9 e h1 h2).app
            · injection hx with hx
              rw [← hx]
              simp
          | jar S f2 =>
            have hT : SqT K H9 tp [.str "jar", .int S, .int f2] := st_of hT
            refine s_if (D := { nx := _, rt := D.rt, bk := _, ct := _ }) (b := false) (et_is (et_test (ev_op (ev_ixT (K := K) (v := .str "jar") (ev_var (v := .ref tp) rfl) ev_c hT rfl) ev_c (rv_eq rfl))) (by decide +kernel)) (fun z => by cases z) fun _ HA eA => ?_
            have fE : ∀ H', Ex H9 H' → Ev (tOp (rIxT K) (tVar 8) (tC (.int 2))) [some (.ref lb), some (.ref lv), some (.int t), some (.int c), some (.ref f), some (.int (i : Int)), some (.int (c + (tot rs (i + j + 1) - tot rs i))), some (.int ((i : Int) + (j : Int))), some (.ref tp), none] H' (.int f2) := fun H' e => ev_ixT (K := K) (v := .int f2) (ev_var (v := .ref tp) rfl) ev_c (ex_t e hT) rfl
            have gt : EvT (tTest (tOp (rI0 fun i j => V.bl (decide (i > j))) (tOp (rIxT K) (tVar 8) (tC (.int 2))) (tC (.int 0)))) [some (.ref lb), some (.ref lv), some (.int t), some (.int c), some (.ref f), some (.int (i : Int)), some (.int (c + (tot rs (i + j + 1) - tot rs i))), some (.int ((i : Int) + (j : Int))), some (.ref tp), none] HA (decide (f2 > 0)) := et_test (ev_op (fE HA eA) ev_c rv_I0)
            by_cases fz : f2 > 0
            · refine s_when (D := { nx := _, rt := D.rt, bk := _, ct := _ }) (et_is gt (decide_eq_true fz)) (fun _ HB eB => ?_) fun z => by cases z
              have eAB := eA.trans eB
              have fB := fE HB eAB
              have fhi : f2 ≤ 1000000000 := bdok.2.2.2
              refine s_app (D := { nx := _, rt := D.rt, bk := _, ct := _ }) (v := .int (mom rs i + (c + (tot rs (i + j + 1) - tot rs i) - S + f2 - 1) / f2)) (eAB _ _ hf9) (ev_var rfl) (ev_op (ev_pair0 (K := K) (i := (i : Int)) (ev_var rfl) (ev_var rfl) ((hP1.mono e9).mono eAB) (by omega) (by rw [Int.toNat_natCast]; exact gi)) (ev_op (ev_op (ev_op (ev_op (ev_var rfl) (ev_ixT (K := K) (v := .int S) (ev_var (v := .ref tp) rfl) ev_c (ex_t eAB hT) rfl) rv_I0) fB rv_I0) ev_c rv_I0) fB (rv_I ⟨fz, by omega⟩)) rv_I0) lnb fun HC eC => ⟨ms ++ [mom rs i + (c + (tot rs (i + j + 1) - tot rs i) - S + f2 - 1) / f2], _, rfl, Ex.mut ((e9.trans eAB).trans eC) nf, by rw [upd_same, mapp], by rw [List.length_append]; simp; omega, fun e h1 h2 => ?_, tk _ fun x hx => ?_⟩
              · rw [← List.append_assoc]
                exact (cv9 e h1 h2).app
              · have hx : (if f2 > 0 then some (mom rs i + (c + (tot rs (i + j + 1) - tot rs i) - S + f2 - 1) / f2) else none) = some x := hx
                rw [if_pos fz] at hx
                injection hx with hx
                rw [← hx]
                simp
            · refine s_when (D := { nx := _, rt := D.rt, bk := _, ct := _ }) (et_is gt (decide_eq_false fz)) (fun z => by cases z) fun _ HB eB => ?_
              refine ⟨ms ++ [], _, rfl, (e9.trans eA).trans eB, by rw [List.append_nil]; exact (eA.trans eB) _ _ hf9, by rw [List.append_nil]; omega, by rw [List.append_nil]; exact cv9, tk [] fun x hx => ?_⟩
              have hx : (if f2 > 0 then some (mom rs i + (c + (tot rs (i + j + 1) - tot rs i) - S + f2 - 1) / f2) else none) = some x := hx
              rw [if_neg fz] at hx
              cases hx
        · subst hσ
          rw [List.length_map, ← tl] at hlm9 cb
          rw [List.take_length] at cb
          refine ⟨ms, _, _, rfl, e9, hf9, by omega, fun e h1 h2 => ?_⟩
          by_cases z : e < i + j
          · exact cv9 e h1 z
          · obtain rfl : e = i + j := by omega
            exact cb
      · subst hσ
        have hnn : ((rs.length : Int) - (i : Int)).toNat = rs.length - i := by omega
        rw [hnn] at hlm cv
        refine ⟨ns ++ ms, _, _, _, _, rfl, e7, hf7, by rw [List.length_append]; omega, List.mem_append_left _ htn, fun s e h1 h2 h3 => ?_⟩
        by_cases z : s < i
        · exact (cov s e z h2 h3).app
        · obtain rfl : s = i := by omega
          exact cv e h2 (by omega)
    · subst hσ
      have lc := el_lcL (K := K) (σ := [some (.ref lb), some (.ref lv), some (.int t), some (.int c), some (.ref f), o5, o6, o7, o8, none]) (H := H3) (j := 9) (vs := [9]) (tl := tVar 4) (te := tVar 9) (t := tTest (tOp (rI0 fun i j => V.bl (decide (j ≤ i))) (tVar 9) (tVar 2))) (fun i => decide (t ≤ ns.getD i 0)) (fun i => .int (ns.getD i 0)) (ev_var rfl) (sq_of hf3) (by rw [List.length_map]; omega) (fun x => rfl) (fun j x HA eA hx => by
        rw [List.getElem?_map] at hx
        obtain ⟨z, hz, rfl⟩ := Option.map_eq_some_iff.mp hx
        have : ns.getD j 0 = z := by rw [List.getD_eq_getElem?_getD, hz]; rfl
        rw [this]
        exact et_test (ev_op (ev_var (v := .int z) rfl) (ev_var rfl) rv_I0)) (fun j x HA eA hx _ => by
        rw [List.getElem?_map] at hx
        obtain ⟨z, hz, rfl⟩ := Option.map_eq_some_iff.mp hx
        have : ns.getD j 0 = z := by rw [List.getD_eq_getElem?_getD, hz]; rfl
        rw [this]
        exact ev_var rfl)
      have gl : given (ns.map V.int).length (fun i => decide (t ≤ ns.getD i 0)) (fun i => V.int (ns.getD i 0)) = (((List.range ns.length).filter fun i => decide (t ≤ ns.getD i 0)).map fun i => ns.getD i 0).map V.int := by
        unfold given
        rw [List.length_map, List.map_map]
        rfl
      rw [gl] at lc
      have mem : ∀ x, x ∈ ((List.range ns.length).filter fun i => decide (t ≤ ns.getD i 0)).map (fun i => ns.getD i 0) ↔ x ∈ ns ∧ t ≤ x := fun x => by
        rw [List.mem_map]
        refine ⟨fun ⟨i, hi, e⟩ => ?_, fun ⟨hx, hx2⟩ => ?_⟩
        · obtain ⟨h1, h2⟩ := List.mem_filter.mp hi
          have h1 := List.mem_range.mp h1
          have h2 := of_decide_eq_true h2
          rw [e] at h2
          refine ⟨?_, h2⟩
          rw [← e, List.getD_eq_getElem?_getD, List.getElem?_eq_getElem h1]
          exact List.getElem_mem h1
        · obtain ⟨i, hi, e⟩ := List.getElem_of_mem hx
          have g : ns.getD i 0 = x := by rw [List.getD_eq_getElem?_getD, List.getElem?_eq_getElem hi, e]; rfl
          exact ⟨i, List.mem_filter.mpr ⟨List.mem_range.mpr hi, decide_eq_true (by rw [g]; exact hx2)⟩, g⟩
      have ln : (((List.range ns.length).filter fun i => decide (t ≤ ns.getD i 0)).map (fun i => ns.getD i 0)).length ≤ 1000 := by
        rw [List.length_map]
        have := List.length_filter_le (fun i => decide (t ≤ ns.getD i 0)) (List.range ns.length)
        rw [List.length_range] at this
        omega
      generalize ((List.range ns.length).filter fun i => decide (t ≤ ns.getD i 0)).map (fun i => ns.getD i 0) = ms at lc mem ln
      refine ret_cb2 (lc H3 (Ex.refl _) _ fun pl H4 npl e4 hpl => ?_)
      refine ⟨pl, ms, rfl, sq_of hpl, ln, fun ps cc nps hcc => ?_⟩
      refine ⟨ps, _, cc, rfl, upd_same, by omega, fun ns2 p2 pw mm len np2 => ?_⟩
      have e5 := (Ex.new (o := SetO w ps (fun j => decide (j ∈ ms)) cc) nps).trans (Ex.new (o := .lst (ns2.map V.int)) np2)
      have mm2 : ∀ x, x ∈ ns2 ↔ x ∈ ns ∧ t ≤ x := fun x => by
        rw [mm x, decide_eq_true_eq, mem x]
      exact q _ _ (e3.trans (e4.trans e5)) ⟨p2, ns2, rfl, upd_same, fun x hx => ((mm2 x).mp hx).2, pw, (mm2 t).mpr ⟨htn, Int.le_refl _⟩, fun bd hb s e h1 h2 x hx hx2 => (mm2 x).mpr ⟨cov s e (by omega) h1 h2 bd hb x hx, hx2⟩⟩
end
/-! the law's least moment: of the tried ones, and one by one -/
theorem evw_callL4 {R : List V → Hp → (V → Hp → Prop) → Prop} {ta : TA} {vs : List V} {σ : L2.St} {H : Hp} {E : XK} {W : V → Hp → Prop} (h : EvA ta σ H vs) (hR : ∀ H1, Ex H H1 → R vs H1 W) : EvW (tCall (spW R) [] E ta) σ H W := evw_callW h hR
theorem rtw_forW {K : PySem.W.Frag} {te : TE} {g : TG} {u tz : TS} {σ : L2.St} {H : Hp} {W W' : V → Hp → Prop} (h : EvW te σ H W) (k : ∀ v H1, Ex H H1 → W v H1 → RtW (tSeq (tFor (iList K (tC v)) g u) tz) σ H1 W') : RtW (tSeq (tFor (iList K te) g u) tz) σ H W' := fun H1 e D q =>
  h H1 e _ fun v H2 e2 w => k v H2 (e.trans e2) w H2 (Ex.refl _) D fun v' H3 e3 w' => q v' H3 (e2.trans e3) w'
def REarl10 (vs : List V) (H : Hp) (v : V) : Prop := ∃ lb lv ts bds rs t c, vs = [.ref lb, .ref lv, .int t, .int c] ∧ H lb = some (.lst (ts.map V.ref)) ∧ Tups H ts bds ∧ PairsT H lv rs ∧ (∀ bd ∈ bds, bd.ok) ∧ bds.length ≤ 4 ∧ VOk rs ∧ (∀ bd ∈ bds, KeepsM bd rs) ∧ rs.length ≤ 11 ∧ 1 ≤ c ∧ v = opV (erl bds rs t c)
def ROne10 (vs : List V) (H : Hp) (v : V) : Prop := ∃ lb lv ts bds rs t c, vs = [.ref lb, .ref lv, .int t, .int c] ∧ H lb = some (.lst (ts.map V.ref)) ∧ Tups H ts bds ∧ PairsT H lv rs ∧ (∀ bd ∈ bds, bd.ok) ∧ bds.length ≤ 4 ∧ VOk rs ∧ (∀ bd ∈ bds, KeepsM bd rs) ∧ rs.length ≤ 11 ∧ 1 ≤ c ∧ c ≤ 9 ∧ (∀ bd ∈ bds, SmallB bd) ∧ 0 ≤ t ∧ t ≤ 2000000000000 ∧ (∀ q ∈ rs, 0 ≤ q.1 ∧ q.1 ≤ 2000000000000) ∧ v = opV (erl bds rs t c)
section
variable {P : Program} {w : World} {K : PySem.W.Frag} {mg : Str → Option Value} {base : Heap}
/-- does the row with a visit there break none? -/
theorem et_breaks {σ : L2.St} {H : Hp} {lb lv : Addr} {ts : List Addr} {bds : List Bd} {rs : VS} {x c : Int} {a0 a1 a2 a3 : Nat} (h0 : σ[a0]? = some (some (.ref lb))) (h1 : σ[a1]? = some (some (.ref lv))) (h2 : σ[a2]? = some (some (.int x))) (h3 : σ[a3]? = some (some (.int c))) (hl : H lb = some (.lst (ts.map V.ref))) (ht : Tups H ts bds) (hP : PairsT H lv rs) (ok : VOk rs) (bok : ∀ bd ∈ bds, bd.ok) (h4 : bds.length ≤ 4) (hn : rs.length ≤ 11) (hc : 1 ≤ c) :
    EvT (tB (tIsN (tCall (spW RBrks) [] C8.E0 (tCons (tVar a0) (tCons (tCall (spW RRow) [] C8.E0 (tCons (tVar a1) (tCons (tVar a2) (tCons (tVar a3) tNil)))) tNil))))) σ H (fstB bds (insB rs x c) 0).isNone :=
  et_isNW (evw_callVW (ev_var h0) (evw_callW (ea_cons (ev_var h1) (ea_cons (ev_var h2) (ea_cons (ev_var h3) ea_nil))) fun H1 e1 => ⟨lv, rs, x, c, H, rfl, hP.mono e1, ok, by omega, e1, rfl⟩) fun v2 H1 H2 e1 ⟨p, ev, _, hp⟩ e2 => by
    subst ev
    exact ⟨lb, p, ts, bds, insB rs x c, rfl, (e1.trans e2) _ _ hl, ht.mono (e1.trans e2), hp.mono e2, ins_ok ok hc, bok, h4, by have := ins_len rs x c; omega, rfl⟩)
theorem cal_Learliest {f : Addr} {fd : FuncData} (T : Blt mg) (c_Lbegins : C8.Cal P w K mg base 1 "_law_begins" (spW RBegin10) []) (c_Lbreaks : C8.Cal P w K mg base 3 "_law_breaks" (spW RBrks) []) (c_Lwith : C8.Cal P w K mg base 1 "_law_with" (spW RRow) []) (F : C8.Def K mg "_law_earliest" s_Learliest f fd) (b : Binds K fd ["_law_bounds", "_law_visits", "_law_moment", "_law_cost_here"] []) : C8.Cal P w K mg base 4 "_law_earliest" (spF REarl10) [] := by
  refine calF F b sc_Learliest (fun vs H v h => ?_) (fun cdv A outer s H vs v E hr h => ?_)
  · obtain ⟨lb, lv, ts, bds, rs, t, c, rfl, _⟩ := h
    rfl
  · obtain ⟨lb, lv, ts, bds, rs, t, c, rfl, hl, ht, hP, bok, h4, ok, kp, hn, hc, rfl⟩ := h
    refine ⟨_, (pss_cons (ps_for PassesOwn.never rfl (pi_list (C8.pe_c c_Lbegins hr (by decide) rfl (pa_cons (pv 0) (pa_cons (pv 1) (pa_cons (pv 2) (pa_cons (pv 3) pa_nil)))))) (pg_name (i := 4) sc_Learliest.nd rfl (Or.inl rfl))
    (pss_one (ps_if (pt_cmp (pc_isN (C8.pe_c c_Lbreaks hr (by decide) rfl (pa_cons (pv 0) (pa_cons (C8.pe_c c_Lwith hr (by decide) rfl (pa_cons (pv 1) (pa_cons (pv 4) (pa_cons (pv 3) pa_nil)))) pa_nil)))))
      (pss_one (ps_ret (pv 4)))
      pss_nil)))
  (pss_one (ps_ret pe_non))), ?_⟩
    have er := erl_is bds rs t c
    refine RtW.toV (rtw_forW (evw_callW (ea_cons (ev_var rfl) (ea_cons (ev_var rfl) (ea_cons (ev_var rfl) (ea_cons (ev_var rfl) ea_nil)))) fun H1 e1 => ⟨lb, lv, ts, bds, rs, t, c, rfl, e1 _ _ hl, ht.mono e1, hP.mono e1, bok, h4, hn, rfl⟩) fun v H1 e1 ⟨p, ns, ev, hp, ge, srt, tin, cov⟩ => ?_)
    subst ev
    have at_ : ∀ i, i < ns.length → t ≤ ns.getD i 0 := fun i hi => by
      rw [List.getD_eq_getElem?_getD, List.getElem?_eq_getElem hi]
      exact ge _ (List.getElem_mem hi)
    have mono : ∀ i j, i ≤ j → j < ns.length → ns.getD i 0 ≤ ns.getD j 0 := fun i j hij hj => by
      rw [List.getD_eq_getElem?_getD, List.getElem?_eq_getElem (by omega), List.getD_eq_getElem?_getD, List.getElem?_eq_getElem hj]
      by_cases e : i = j
      · subst e
        exact Int.le_refl _
      · exact List.pairwise_iff_getElem.mp srt i j (by omega) hj (by omega)
    have mem : ∀ x, x ∈ ns → ∃ j, j < ns.length ∧ ns.getD j 0 = x := fun x hx => by
      obtain ⟨j, hj, e⟩ := List.getElem_of_mem hx
      exact ⟨j, hj, by rw [List.getD_eq_getElem?_getD, List.getElem?_eq_getElem hj, e]; rfl⟩
    have ein : ∀ E, erl bds rs t c = some E → E ∈ ns := fun E hE => by
      rw [hE] at er
      rcases early_cand bok ok kp er with z | ⟨bd, hb, s, e, h1, h2, h3⟩
      · rw [z]
        exact tin
      · exact cov bd hb s e h1 h2 E h3 er.1
    refine rtwp_for (fun i σ => ∃ o4, σ = [some (.ref lb), some (.ref lv), some (.int t), some (.int c), o4] ∧ ∀ j, j < i → ¬ OkU bds rs c (ns.getD j 0)) ⟨none, rfl, fun j h => absurd h (Nat.not_lt_zero _)⟩ (ei_l (K := K) (.int 0) ev_c (sq_of hp)) (fun i σ hi ⟨o4, hσ, no⟩ => ?_) fun σ ⟨o4, hσ, no⟩ => ?_
    · subst hσ
      rw [List.length_map] at hi
      have item : (ns.map V.int).getD i (.int 0) = .int (ns.getD i 0) := by
        rw [List.getD_eq_getElem?_getD, List.getElem?_map, List.getD_eq_getElem?_getD, List.getElem?_eq_getElem hi]
        rfl
      rw [item]
      have tst := et_breaks (σ := [some (.ref lb), some (.ref lv), some (.int t), some (.int c), some (.int (ns.getD i 0))]) (x := ns.getD i 0) (c := c) (a0 := 0) (a1 := 1) (a2 := 4) (a3 := 3) rfl rfl rfl rfl (e1 _ _ hl) (ht.mono e1) (hP.mono e1) ok bok h4 hn hc
      cases hz : fstB bds (insB rs (ns.getD i 0) c) 0 with
      | some q =>
        rw [hz] at tst
        have nok : ¬ OkU bds rs c (ns.getD i 0) := fun z => by
          rw [(fst_iff bok ok hc).mpr z] at hz
          cases hz
        refine .inl (gnxp_name (nxp_if (b := false) tst (fun z => by cases z) fun _ => nxp_of nx_next ⟨_, rfl, fun j hj => ?_⟩))
        by_cases e : j = i
        · rw [e]
          exact nok
        · exact no j (by omega)
      | none =>
        rw [hz] at tst
        have okx := (fst_iff bok ok hc).mp hz
        refine .inr (grtw_name2 (rtw_if (b := true) tst (fun _ => rtw_ret (evw_v (ev_var rfl) fun H2 _ => ?_)) fun z => by cases z))
        show V.int (ns.getD i 0) = opV (erl bds rs t c)
        have eq : erl bds rs t c = some (ns.getD i 0) := by
          cases hE : erl bds rs t c with
          | none =>
            rw [hE] at er
            exact absurd okx (er _ (at_ i hi))
          | some E =>
            have eE := ein E hE
            rw [hE] at er
            obtain ⟨j, hj, ej⟩ := mem E eE
            have le : ¬ ns.getD i 0 < E := fun z => er.2.2 _ (at_ i hi) z okx
            have ge2 : ¬ E < ns.getD i 0 := fun z => by
              have hji : j < i := by
                by_cases q : j < i
                · exact q
                · have := mono i j (by omega) hj
                  omega
              have := no j hji
              rw [ej] at this
              exact this er.2.1
            rw [show E = ns.getD i 0 by omega]
        rw [eq]
        rfl
    · subst hσ
      rw [List.length_map] at no
      refine rtw_ret (evw_v ev_c fun H2 _ => ?_)
      show V.non = opV (erl bds rs t c)
      have eq : erl bds rs t c = none := by
        cases hE : erl bds rs t c with
        | none => rfl
        | some E =>
          obtain ⟨j, hj, ej⟩ := mem E (ein E hE)
          rw [hE] at er
          have := no j hj
          rw [ej] at this
          exact absurd er.2.1 this
      rw [eq]
      rfl
theorem cal_Lone_by_one {f : Addr} {fd : FuncData} (T : Blt mg) (c_Lbreaks : C8.Cal P w K mg base 3 "_law_breaks" (spW RBrks) []) (c_Lwith : C8.Cal P w K mg base 1 "_law_with" (spW RRow) []) (F : C8.Def K mg "_law_one_by_one" s_Lone_by_one f fd) (b : Binds K fd ["_law_bounds", "_law_visits", "_law_moment", "_law_cost_here"] []) : C8.Cal P w K mg base 4 "_law_one_by_one" (spF ROne10) [] := by
  refine calF F b sc_Lone_by_one (fun vs H v h => ?_) (fun cdv A outer s H vs v E hr h => ?_)
  · obtain ⟨lb, lv, ts, bds, rs, t, c, rfl, _⟩ := h
    rfl
  · obtain ⟨lb, lv, ts, bds, rs, t, c, rfl, hl, ht, hP, bok, h4, ok, kp, hn, hc, c9, sm, t0, t1, hmo, rfl⟩ := h
    refine ⟨_, (pss_cons (ps_set (i := 4) sc_Lone_by_one.nd rfl (Or.inl rfl) (pe_callB (cr_max rfl) (by rfl) T.b_max boot_max (pa_cons (pe_op op_cat (pe_lst (pa_cons (pv 2) pa_nil)) (pe_lc (own := [("_law_one", 6)]) (g := gName 6) rfl sc_Lone_by_one.nd (pi_list (pv 1)) (blkOk_by (own := [("_law_one", 6)]) (N := ["_law_bounds", "_law_visits", "_law_moment", "_law_cost_here", "_law_last", "_law_there", "_law_one"]) (sc := C8.fnScope s_Lone_by_one) (by decide +kernel)) (fun _ _ _ _ _ => pg_name (i := 6) sc_Lone_by_one.nd rfl (Or.inl rfl)) (fun _ _ _ _ _ => pts_nil) (fun _ _ _ _ _ => (pe_ix (show IxR _ (rIxT K) from ix_tup) (pv 6) pe_int (fun _ _ => rfl))))) pa_nil)))
  (pss_cons (ps_for PassesOwn.never rfl (pi_range2 rfl T.b_range (pa_cons (pv 2) (pa_cons (pe_op op_add (pv 4) pe_int) pa_nil))) (pg_name (i := 5) sc_Lone_by_one.nd rfl (Or.inl rfl))
    (pss_one (ps_if (pt_cmp (pc_isN (C8.pe_c c_Lbreaks hr (by decide) rfl (pa_cons (pv 0) (pa_cons (C8.pe_c c_Lwith hr (by decide) rfl (pa_cons (pv 1) (pa_cons (pv 5) (pa_cons (pv 3) pa_nil)))) pa_nil)))))
      (pss_one (ps_ret (pv 5)))
      pss_nil)))
  (pss_one (ps_ret pe_non)))), ?_⟩
    have er := erl_is bds rs t c
    obtain ⟨ps, hlv, hps⟩ := id hP
    have plen := hps.len
    -- the last moment
    have lc := el_lcL (K := K) (σ := [some (.ref lb), some (.ref lv), some (.int t), some (.int c), none, none, none]) (H := H) (j := 6) (vs := [6]) (t := tYes) (tl := tVar 1) (te := tOp (rIxT K) (tVar 6) (tC (.int 0))) (fun _ => true) (fun i => .int (mom rs i)) (ev_var rfl) (sq_of hlv) (by rw [List.length_map]; omega) (fun x => rfl) (fun i x H1 _ _ H2 e Q q => q H2 (Ex.refl H2)) (fun i x H1 e hx _ => by
      rw [List.getElem?_map] at hx
      obtain ⟨pa, hpa, rfl⟩ := Option.map_eq_some_iff.mp hx
      have hi : i < rs.length := by
        rw [← plen]
        exact (List.getElem?_eq_some_iff.mp hpa).1
      obtain ⟨pa', hpa', hT⟩ := hps.at (getD_some hi)
      rw [hpa] at hpa'
      cases hpa'
      exact ev_ixT (K := K) (v := .int (mom rs i)) (ev_var (v := .ref pa) rfl) ev_c (st_of (e _ _ hT)) rfl)
    rw [given_all, List.length_map, plen] at lc
    have lc2 : EvL (tOp rCat (tLst (tCons (tVar 2) tNil)) (tLc (iList K (tVar 1)) (gName 6) tYes (tOp (rIxT K) (tVar 6) (tC (.int 0))) [6])) [some (.ref lb), some (.ref lv), some (.int t), some (.int c), none, none, none] H ((t :: (List.range rs.length).map (mom rs)).map V.int) := by
      have z := el_catNN (el_lst (vs := [.int t]) (ea_cons (ev_var (i := 2) rfl) ea_nil) (show 1 ≤ 100000 by decide)) lc (by rw [List.length_map, List.length_range]; show 1 + _ ≤ _; omega)
      rw [List.map_cons, List.map_map]
      exact z
    refine RtW.toV ?_
    have mx : EvW (tCB (rMax K) (tCons (tOp rCat (tLst (tCons (tVar 2) tNil)) (tLc (iList K (tVar 1)) (gName 6) tYes (tOp (rIxT K) (tVar 6) (tC (.int 0))) [6])) tNil)) [some (.ref lb), some (.ref lv), some (.int t), some (.int c), none, none, none] H (fun v _ => ∃ L, v = .int L ∧ L ∈ t :: (List.range rs.length).map (mom rs) ∧ ∀ y ∈ t :: (List.range rs.length).map (mom rs), y ≤ L) := fun H1 e Q q =>
      lc2 H1 e _ fun p H2 _ e2 hp => ⟨p, _, rfl, sq_of hp, by simp, fun L hL hm => q _ H2 e2 ⟨L, rfl, hL, hm⟩⟩
    refine rtw_asgW mx fun v H1 e1 ⟨L, ev, hL, hm⟩ => ?_
    subst ev
    have tL : t ≤ L := hm t List.mem_cons_self
    have mL : ∀ i, i < rs.length → mom rs i ≤ L := fun i hi => hm _ (List.mem_cons_of_mem _ (List.mem_map.mpr ⟨i, List.mem_range.mpr hi, rfl⟩))
    have Lhi : L ≤ 2000000000000 := by
      rcases List.mem_cons.mp hL with z | z
      · omega
      · obtain ⟨i, hi, e⟩ := List.mem_map.mp z
        obtain ⟨q, hq, e2⟩ := mom_mem (List.mem_range.mp hi)
        have := hmo q hq
        omega
    refine rtwp_for (fun i σ => ∃ o5, σ = [some (.ref lb), some (.ref lv), some (.int t), some (.int c), some (.int L), o5, none] ∧ ∀ u, t ≤ u → u < t + (i : Int) → ¬ OkU bds rs c u) ⟨none, rfl, fun u h1 h2 => by omega⟩ (ei_r2 (a := t) (n := L + 45) (ea_cons (ev_var rfl) (ea_cons (ev_op (ev_var rfl) ev_c rv_I0) ea_nil)) ⟨by omega, by omega, by omega, by omega⟩) (fun i σ hi ⟨o5, hσ, no⟩ => ?_) fun σ ⟨o5, hσ, no⟩ => ?_
    · subst hσ
      have tst := et_breaks (σ := [some (.ref lb), some (.ref lv), some (.int t), some (.int c), some (.int L), some (.int (t + (i : Int))), none]) (x := t + (i : Int)) (c := c) (a0 := 0) (a1 := 1) (a2 := 5) (a3 := 3) rfl rfl rfl rfl (e1 _ _ hl) (ht.mono e1) (hP.mono e1) ok bok h4 hn hc
      cases hz : fstB bds (insB rs (t + (i : Int)) c) 0 with
      | some q =>
        rw [hz] at tst
        have nok : ¬ OkU bds rs c (t + (i : Int)) := fun z => by
          rw [(fst_iff bok ok hc).mpr z] at hz
          cases hz
        refine .inl (gnxp_name (nxp_if (b := false) tst (fun z => by cases z) fun _ => nxp_of nx_next ⟨_, rfl, fun u h1 h2 => ?_⟩))
        by_cases e : u < t + (i : Int)
        · exact no u h1 e
        · rw [show u = t + (i : Int) by omega]
          exact nok
      | none =>
        rw [hz] at tst
        have okx := (fst_iff bok ok hc).mp hz
        refine .inr (grtw_name2 (rtw_if (b := true) tst (fun _ => rtw_ret (evw_v (ev_var rfl) fun H2 _ => ?_)) fun z => by cases z))
        show V.int (t + (i : Int)) = opV (erl bds rs t c)
        rw [early_one er (show EarlyIs bds rs t c (some (t + (i : Int))) from ⟨by omega, okx, no⟩)]
        rfl
    · subst hσ
      refine rtw_ret (evw_v ev_c fun H2 _ => ?_)
      show V.non = opV (erl bds rs t c)
      have eq : erl bds rs t c = none := by
        cases hE : erl bds rs t c with
        | none => rfl
        | some E =>
          rw [hE] at er
          have near := early_near bok ok kp sm c9 tL mL er
          exact absurd er.2.1 (no E er.1 (by have := er.1; omega))
      rw [eq]
      rfl
end
/-! what the law asks of a book -/
theorem eqv_rows : ∀ rs : VS, PyData.eqvAll (rs.map dPr) (rs.map dPr) = true
  | [] => by simp [PyData.eqvAll]
  | q :: rs => by
    have z := eqv_pr q q
    rw [decide_eq_true rfl] at z
    simp only [List.map_cons, PyData.eqvAll, z, eqv_rows rs, Bool.and_self]
theorem rv_neRows {K : PySem.W.Frag} {H : Hp} {a b : Addr} {rs : VS} (ha : PairsT H a rs) (hb : PairsT H b rs) : RV (rNeD K) (.ref a) (.ref b) H (.bl false) := by
  obtain ⟨ps, h1, h2⟩ := ha
  obtain ⟨ps', h3, h4⟩ := hb
  have z := rv_neD (K := K) (x := .ref a) (y := .ref b) (H := H) (fun H1 e => .lst (sq_of (e _ _ h1)) (dp_rows (h2.mono e))) (fun H1 e => .lst (sq_of (e _ _ h3)) (dp_rows (h4.mono e))) (shp_rows rs) (shp_rows rs)
  have e1 : PyData.eqv (.list (rs.map dPr)) (.list (rs.map dPr)) = true := by simp only [PyData.eqv, eqv_rows]
  rw [e1] at z
  exact z
theorem rv_eqRows {K : PySem.W.Frag} {H : Hp} {a b : Addr} {rs : VS} (ha : PairsT H a rs) (hb : PairsT H b rs) : RV (rEqD K) (.ref a) (.ref b) H (.bl true) := by
  obtain ⟨ps, h1, h2⟩ := ha
  obtain ⟨ps', h3, h4⟩ := hb
  have z := rv_eqD (K := K) (x := .ref a) (y := .ref b) (H := H) (fun H1 e => .lst (sq_of (e _ _ h1)) (dp_rows (h2.mono e))) (fun H1 e => .lst (sq_of (e _ _ h3)) (dp_rows (h4.mono e))) (shp_rows rs) (shp_rows rs)
  have e1 : PyData.eqv (.list (rs.map dPr)) (.list (rs.map dPr)) = true := by simp only [PyData.eqv, eqv_rows]
  rw [e1] at z
  exact z
theorem ev_opWV {ta tb : TE} {σ : L2.St} {H : Hp} {r : R2} {W : V → Hp → Prop} {y z : V} (ha : EvW ta σ H W) (hb : Ev tb σ H y) (hr : ∀ v H1 H2, Ex H H1 → W v H1 → Ex H1 H2 → RV r v y H2 z) : Ev (tOp r ta tb) σ H z := fun H1 e Q q =>
  ha H1 e _ fun v H2 e2 w => hb H2 (e.trans e2) _ fun H3 e3 => hr v H2 H3 (e.trans e2) w e3 H3 (Ex.refl _) Q fun H4 e4 => q H4 ((e2.trans e3).trans e4)
theorem tcall_go {sp : Sp} {E : XK} {ta : TA} {σ : L2.St} {H : Hp} {vs : List V} {Q : VK} (h : EvA ta σ H vs) (k : ∀ H1, Ex H H1 → sp (vs ++ []) H1 Q E) : tCall sp [] E ta σ H Q := h H (Ex.refl H) _ k
theorem tmeth_go {C : Addr} {m : Str} {sp : Sp} {E : XK} {to : TE} {ta : TA} {σ : L2.St} {H : Hp} {a dx : Addr} {fs : List (Str × V)} {vs : List V} {Q : VK} (ho : Ev to σ H (.ref a)) (hx : H a = some (.ins C dx fs)) (hm : fs.lookup m = none) (h : EvA ta σ H vs) (k : ∀ H1, Ex H H1 → sp (.ref a :: vs ++ []) H1 Q E) : tMeth C m sp [] E to ta σ H Q :=
  ho H (Ex.refl H) _ fun H1 e1 => ⟨a, dx, fs, rfl, e1 _ _ hx, hm, h H1 e1 _ fun H2 e2 => k H2 (e1.trans e2)⟩
theorem q_asgM {te : TE} {i : Nat} {u : TS} {D : Ends} {σ : L2.St} {H : Hp} (h : te σ H fun v H1 => u D (σ.set i (some v)) H1) : tSeq (tAsg te (gName i)) u D σ H := h
theorem q_make1 {te : TE} {u : TS} {σ : L2.St} {H : Hp} {D : Ends} {C : Addr} {sp : Sp} {E : XK} {i : Nat} (h : te σ H fun v H1 => ∀ x dx, H1 x = none → H1 dx = none → dx ≠ x → sp (.ref x :: ([v] ++ [])) (upd (upd H1 dx (.own x)) x (.ins C dx [])) (fun v2 H2 => v2 = .non ∧ u D (σ.set i (some (.ref x))) H2) E) : tSeq (tAsg (tMake C sp [] E (tCons te tNil)) (gName i)) u D σ H := h
theorem ret_go {te : TE} {D : Ends} {σ : L2.St} {H : Hp} (h : te σ H D.rt) : tRet te D σ H := h
theorem isN_go {ta : TE} {σ : L2.St} {H : Hp} {Q : VK} {x : V} (h : Ev ta σ H x) (q : ∀ H2, Ex H H2 → Q (.bl (decide (x = .non))) H2) : tIsN ta σ H Q := ev_isN h H (Ex.refl H) Q q
theorem orv_isN {ta tb : TE} {σ : L2.St} {H : Hp} {Q : VK} {x : V} (hx : x ≠ .non) (h : Ev ta σ H x) (q : ∀ H2, Ex H H2 → tb σ H2 Q) : tOrV (tIsN ta) tb σ H Q := ev_isN h H (Ex.refl H) _ fun H2 e2 => ⟨_, rfl, by
  rw [decide_eq_false hx]
  exact q H2 e2⟩
theorem orv_bl {ta tb : TE} {σ : L2.St} {H : Hp} {Q : VK} {b : Bool} (h : Ev ta σ H (.bl b)) (q : ∀ H2, Ex H H2 → if b = true then Q (.bl true) H2 else tb σ H2 Q) : tOrV ta tb σ H Q := h H (Ex.refl H) _ fun H2 e2 => ⟨b, rfl, by
  have z := q H2 e2
  cases b <;> exact z⟩
theorem no_if {p q : Prop} (h : q) : if (false : Bool) = true then p else q := h
theorem yes_if {p q : Prop} (h : p) : if (true : Bool) = true then p else q := h
/-- a book's bounds and row -/
structure B10 (bds : List Bd) (rs : VS) : Prop where
  bok : ∀ bd ∈ bds, bd.ok
  h4 : bds.length ≤ 4
  ok : VOk rs
  im : InM rs
  hn : rs.length ≤ 10
  ic : ∀ q ∈ rs, 1 ≤ q.2 ∧ q.2 ≤ 1000000000
  kp : ∀ bd ∈ bds, KeepsM bd rs
def spAsk10 (cJ cW cB : Addr) (T : List NdefX.NTab) : Sp := fun vs H Q _ => ∃ b lb lr lbp lv ts bds rs t c, vs = [.ref b, .ref lbp, .ref lv, .int t, .int c] ∧ BookAt cJ cW cB b lb lr bds rs H ∧ B10 bds rs ∧ H lbp = some (.lst (ts.map V.ref)) ∧ Tups H ts bds ∧ PairsT H lv rs ∧ 0 ≤ t ∧ t ≤ 1000000000000 ∧ 1 ≤ c ∧ c ≤ 1000000000 ∧ NdefX.TabsN T H ∧ ∀ H2, LamX.ExtN H H2 → NdefX.TabsN T H2 → Q (.bl true) H2
def spPut10 (cJ cW cB : Addr) (T : List NdefX.NTab) : Sp := fun vs H Q _ => ∃ b lb lr bds rs t c, vs = [.ref b, .int t, .int c] ∧ BookAt cJ cW cB b lb lr bds rs H ∧ (∀ bd ∈ bds, bd.ok) ∧ bds.length ≤ 4 ∧ VOk rs ∧ InM rs ∧ rs.length ≤ 39 ∧ 0 ≤ t ∧ t ≤ 1000000000000 ∧ 1 ≤ c ∧ c ≤ 1000000000 ∧ NdefX.TabsN T H ∧
  (fstB bds (insB rs t c) 0 ≠ none → ∀ H2, LamX.ExtN H H2 → NdefX.TabsN T H2 → Q (.bl false) H2) ∧
  (fstB bds (insB rs t c) 0 = none → ∀ H2 lr', H lr' = none → (∀ a o, a ≠ b → H a = some o → (∀ ps, o ≠ .tbl ps) → H2 a = some o) → NdefX.TabsN T H2 → BookAt cJ cW cB b lb lr' bds (insB rs t c) H2 → Q (.bl true) H2)
section
variable {P : Program} {w : World} {K : PySem.W.Frag} {mg : Str → Option Value} {base : Heap} {cJ cW cB cG : Addr} {cs : Nat → Addr} {Tb : List NdefX.NTab}
theorem erl_go {H : Hp} {σ : L2.St} {E : XK} {to : TE} {ta : TA} {b lb lr : Addr} {bds : List Bd} {rs : VS} {t c : Int} {Q : VK} (B : BookAt cJ cW cB b lb lr bds rs H) (bok : ∀ bd ∈ bds, bd.ok) (h4 : bds.length ≤ 4) (ok : VOk rs) (kp : ∀ bd ∈ bds, KeepsM bd rs) (hn : rs.length ≤ 40) (hT : NdefX.TabsN Tb H) (t0 : 0 ≤ t) (t1 : t ≤ 1000000000000) (c0 : 1 ≤ c) (c1 : c ≤ 1000000000)
    (ho : Ev to σ H (.ref b)) (hA : EvA ta σ H [.int t, .int c]) (q : ∀ H2, LamX.ExtN H H2 → NdefX.TabsN Tb H2 → Q (opV (erl bds rs t c)) H2) : tMeth cB "earliest" (spEarly K cJ cW cB cs Tb) [] E to ta σ H Q := by
  obtain ⟨dx, hob⟩ := B.ob
  exact tmeth_go ho hob rfl hA fun H1 e1 => ⟨b, lb, lr, bds, rs, .int t, .int c, rfl, B.mono e1, bok, h4, ok, kp, hn, hT.ext e1, .inl ⟨_, rfl⟩, .inl ⟨_, rfl⟩, .inr ⟨t, rfl, inR_t t0 t1, .inr ⟨c, rfl, inR_t c0 c1, fun r H2 er e2 t2 => by
    rw [early_one er (erl_is bds rs t c)]
    exact q H2 ((Ex.extN e1).trans e2) t2⟩⟩⟩
theorem cal_Lasked {f : Addr} {fd : FuncData} (T : Blt mg) (c_Learliest : C8.Cal P w K mg base 4 "_law_earliest" (spF REarl10) []) (t_Book_earliest : MetX P w K mg base 6 cB "earliest" (spEarly K cJ cW cB cs Tb)) (t_Book_visits : C8.Met P w K mg base 1 cB "visits" (spW (RVis cJ cW cB)) []) (F : C8.Def K mg "_law_asked" s_Lasked f fd) (b : Binds K fd ["_law_book", "_law_bounds", "_law_visits", "_law_moment", "_law_cost_here"] []) : C8.Cal P w K mg base 7 "_law_asked" (spAsk10 cJ cW cB Tb) [] := by
  refine C8.cal0 F b .nil sc_Lasked (fun vs H Q E h => ?_) (fun cdv A' outer s H vs Q E hr h => ?_)
  · obtain ⟨b, lb, lr, lbp, lv, ts, bds, rs, t, c, rfl, _⟩ := h
    rfl
  · obtain ⟨b, lb, lr, lbp, lv, ts, bds, rs, t, c, rfl, B, wf, hl, ht, hP, t0, t1, c0, c1, hT, q⟩ := h
    refine ⟨_, (pss_cons (ps_set (i := 5) sc_Lasked.nd rfl (Or.inl rfl) (C8.pe_c c_Learliest hr (by decide) rfl (pa_cons (pv 1) (pa_cons (pv 2) (pa_cons (pv 3) (pa_cons (pv 4) pa_nil))))))
  (pss_cons (ps_set (i := 6) sc_Lasked.nd rfl (Or.inl rfl) (pe_mX t_Book_earliest passF hr (by decide) (pv 0) (pa_cons (pv 3) (pa_cons (pv 4) pa_nil))))
  (pss_cons (ps_if (PW.pt (pw_or (pt_cmpR op_ne (pv 6) (pv 5) (nomark _)) (pw_or (pt_val (pe_callB call_isi (by rfl) T.b_isinstance boot_isinstance (pa_cons (pv 6) (pa_cons (pe_bltn (v := .ty "bool") (by rfl) T.b_bool boot_bool rfl) pa_nil)))) (pw_or1 (pt_cmpR (op_neD hr.units) (C8.pe_mt0 t_Book_visits hr (by decide) (pv 0)) (pv 2) (nomark _))))))
    (pss_one (ps_ret pe_bl))
    pss_nil)
  (pss_one (ps_ret (pe_or (pe_cmp (pc_isN (pv 5)) rfl) (pe_or (pe_cmpR op_gt (pv 5) (pe_op op_pow pe_int pe_int) (nomark _)) (pe_one (pe_cmpR op_eq (pe_mX t_Book_earliest passF hr (by decide) (pv 0) (pa_cons (pv 5) (pa_cons (pv 4) pa_nil))) (pv 5) (nomark _)))))))))), ?_⟩
    have hn := wf.hn
    refine q_asg (v := opV (erl bds rs t c)) (ev_callF (ea_cons (ev_var rfl) (ea_cons (ev_var rfl) (ea_cons (ev_var rfl) (ea_cons (ev_var rfl) ea_nil)))) fun H1 e1 => ⟨lbp, lv, ts, bds, rs, t, c, rfl, e1 _ _ hl, ht.mono e1, hP.mono e1, wf.bok, wf.h4, wf.ok, wf.kp, by omega, c0, rfl⟩) fun H1 e1 => ?_
    refine q_asgM (erl_go (B.mono e1) wf.bok wf.h4 wf.ok wf.kp (by omega) (hT.ext e1) t0 t1 c0 c1 (ev_var rfl) (ea_cons (ev_var rfl) (ea_cons (ev_var rfl) ea_nil)) fun H2 e2 t2 => ?_)
    have e02 := (Ex.extN e1).trans e2
    have B2 := B.exN e02
    have hP2 := exN_pairs e02 hP
    obtain ⟨dx, hob⟩ := B2.ob
    have er := erl_is bds rs t c
    generalize erl bds rs t c = r at er
    have ne1 : EvT (tTest (tOp rNe (tVar 6) (tVar 5))) [some (.ref b), some (.ref lbp), some (.ref lv), some (.int t), some (.int c), some (opV r), some (opV r)] H2 false := et_is (et_test (ev_op (ev_var rfl) (ev_var rfl) (rv_ne (by cases r <;> rfl)))) (by rw [decide_eq_true rfl]; rfl)
    have ne2 : EvT (tB (tCB (rIsi K) (tCons (tVar 6) (tCons (tC (.ty "bool")) tNil)))) [some (.ref b), some (.ref lbp), some (.ref lv), some (.int t), some (.int c), some (opV r), some (opV r)] H2 false := by
      cases r with
      | none => exact et_B (ev_isi (ev_var (v := .non) rfl) ev_c (.ty "bool") (fun _ _ => .base .non) (kit_ty (by decide +kernel)))
      | some E => exact et_B (ev_isi (ev_var (v := .int E) rfl) ev_c (.ty "bool") (tyi E) kib)
    have ne3 : EvT (tTest (tOp (rNeD K) (tMeth cB "visits" (spW (RVis cJ cW cB)) [] C8.E0 (tVar 0) tNil) (tVar 2))) [some (.ref b), some (.ref lbp), some (.ref lv), some (.int t), some (.int c), some (opV r), some (opV r)] H2 false := et_test (ev_opWV (evw_methW (ev_var rfl) hob rfl ea_nil fun H3 e3 => ⟨b, lb, lr, _, _, H2, rfl, B2.mono e3, e3, rfl⟩) (ev_var rfl) fun v H3 H4 e3 ⟨p, ev, _, hp⟩ e4 => by
      subst ev
      exact rv_neRows (hp.mono e4) (hP2.mono (e3.trans e4)))
    refine q_when (b := false) (et_or (a := false) (b := false) ne1 fun _ => et_or (a := false) (b := false) ne2 fun _ => ne3) (fun z => by cases z) fun _ H3 e3 => ?_
    have e03 := e02.trans (Ex.extN e3)
    have t3 := t2.ext e3
    cases r with
    | none =>
      refine (rt_ret (ev_orV (a := true) (b := true) (ev_isN (ev_var (v := .non) rfl)) fun z => by cases z) : Rt _ _ H3 _) H3 (Ex.refl _) _ fun H4 e4 => q H4 (e03.trans (Ex.extN e4)) (t3.ext e4)
    | some E =>
      refine ret_go (orv_isN (x := .int E) (fun z => by cases z) (ev_var rfl) fun H4 e4 => ?_)
      have gt : Ev (tOp (rI0 fun i j => V.bl (decide (i > j))) (tVar 5) (tOp (rI CPow fun i j => V.int (i ^ j.toNat)) (tC (.int 10)) (tC (.int 12)))) [some (.ref b), some (.ref lbp), some (.ref lv), some (.int t), some (.int c), some (opV (some E)), some (opV (some E))] H4 (.bl (decide (E > 1000000000000))) := ev_op (ev_var (v := .int E) rfl) (ev_op (z := .int 1000000000000) ev_c ev_c (rv_I ⟨by decide, by decide, by decide⟩)) rv_I0
      refine orv_bl gt fun H5 e5 => ?_
      have e35 := e4.trans e5
      have e05 := e03.trans (Ex.extN e35)
      by_cases big : E > 1000000000000
      · rw [decide_eq_true big]
        exact yes_if (q H5 e05 (t3.ext e35))
      · rw [decide_eq_false big]
        refine no_if ?_
        have e1E : erl bds rs E c = some E := early_one (erl_is bds rs E c) ⟨Int.le_refl _, er.2.1, fun u h1 h2 => absurd h1 (by omega)⟩
        refine erl_go (B.exN e05) wf.bok wf.h4 wf.ok wf.kp (by omega) (t3.ext e35) (by have := er.1; omega) (by omega) c0 c1 (ev_var rfl) (ea_cons (ev_var (v := .int E) rfl) (ea_cons (ev_var rfl) ea_nil)) fun H6 e6 t6 => ?_
        rw [e1E]
        refine (ev_var (v := .int E) rfl : Ev (tVar 5) _ H6 (.int E)) H6 (Ex.refl _) _ fun H7 e7 => ?_
        refine (rv_eq rfl : RV rEq (.int E) (.int E) H7 _) H7 (Ex.refl _) _ fun H8 e8 => ?_
        rw [decide_eq_true rfl]
        exact q H8 (e05.trans (e6.trans (Ex.extN (e7.trans e8)))) (t6.ext (e7.trans e8))
theorem cal_Lput {f : Addr} {fd : FuncData} (T : Blt mg) (G : Gcl mg cG cs cJ cW) (R : Kdr K cG cs 7) (t_Book_put : MetX P w K mg base 6 cB "put" (spPut K cJ cW cB cs Tb)) (F : C8.Def K mg "_law_put" s_Lput f fd) (b : Binds K fd ["_law_book", "_law_moment", "_law_cost_here"] []) : C8.Cal P w K mg base 7 "_law_put" (spPut10 cJ cW cB Tb) [] := by
  refine C8.cal0 F b .nil sc_Lput (fun vs H Q E h => ?_) (fun cdv A' outer s H vs Q E hr h => ?_)
  · obtain ⟨b, lb, lr, bds, rs, t, c, rfl, _⟩ := h
    rfl
  · obtain ⟨b, lb, lr, bds, rs, t, c, rfl, B, bok, h4, ok, im, hn, t0, t1, c0, c1, hT, q1, q2⟩ := h
    refine ⟨_, (pss_cons (ps_set (i := 3) sc_Lput.nd rfl (Or.inl rfl) pe_non)
  (pss_cons (ps_try_keep (i := 4) (tb := fun W => tDrop (tMethT cB "put" (spPut K cJ cW cB cs Tb) (WE W) (tVar 0) (tCons (tVar 1) (tCons (tVar 2) tNil)))) (ts := tAsg (tVar 4) (gName 3)) (Wout := fun _ _ _ _ => False) rfl rfl sc_Lput.nd rfl rfl ⟨rfl, by decide, Or.inl G.c_GateError⟩ takes0 (fun W pn xe tk _ => pss_one (ps_expr (by exact (pe_mT t_Book_put tk hr (by decide) (pv 0) (pa_cons (pv 1) (pa_cons (pv 2) pa_nil)))))) (fun a pn => pss_one (ps_set (i := 3) sc_Lput.nd rfl (Or.inl rfl) (pv 4))))
  (pss_one (ps_ret (pe_cmp (pc_isN (pv 3)) rfl))))), ?_⟩
    refine q_asg ev_c fun H1 e1 => ?_
    have B1 := B.mono e1
    obtain ⟨dx, ho⟩ := B1.ob
    refine ⟨_, rfl, b, dx, _, rfl, ho, rfl, _, rfl, _, rfl, b, lb, lr, bds, rs, .int t, .int c, rfl, B1, bok, h4, ok, im, by omega, hT.ext e1, .inl ⟨_, rfl⟩, .inl ⟨_, rfl⟩, .inr ⟨t, rfl, inR_t t0 t1, .inr ⟨c, rfl, inR_t c0 c1, .inr ⟨by omega, fun k st hf H5 d' p' e5 t5 hd' hp' => ?_, fun hf H5 lr' nl keep t5 B5 => ?_⟩⟩⟩⟩
    · refine ⟨true, R.em 6 (by decide), fun _ a na => ⟨.ref a, rfl, ?_⟩, fun z => by cases z⟩
      exact (rt_ret (ev_isN (ev_var (v := .ref a) rfl)) : Rt _ _ _ (.bl false)) _ (Ex.refl _) _ fun H6 e6 => q1 (by rw [hf]; exact fun z => by cases z) H6 ((Ex.extN e1).trans (e5.trans (Ex.extN ((Ex.new na).trans e6)))) (t5.ext ((Ex.new na).trans e6))
    · exact (rt_ret (ev_isN (ev_var (v := .non) rfl)) : Rt _ _ H5 (.bl true)) H5 (Ex.refl _) _ fun H6 e6 => q2 hf H6 lr' (fresh_back e1 nl) (fun x o hx h no => e6 _ _ (keep x o hx (e1 _ _ h) no)) (t5.ext e6) (B5.mono e6)
end
/-! a change of a bound by the law -/
def w3 (c a b d : Int) : Int := if c % 3 = 0 then a else if c % 3 = 1 then b else d
def wideV (c : Int) : Bd → Bd
  | .win m _ => .win m (1 + c % w3 c 50 1000000 1000000000000)
  | .jar s _ => .jar s (w3 c 0 1 (1 + c % 1000))
def Fine (b : Bd) : Prop := b.ok ∧ b.cap ≤ 1000000000
theorem w3_in {c a b d lo hi : Int} (ha : lo ≤ a ∧ a ≤ hi) (hb : lo ≤ b ∧ b ≤ hi) (hd : lo ≤ d ∧ d ≤ hi) : lo ≤ w3 c a b d ∧ w3 c a b d ≤ hi := by
  unfold w3
  split
  · exact ha
  · split
    · exact hb
    · exact hd
theorem wide_fine {c : Int} {b : Bd} (h : Fine b) : Fine (wideV c b) := by
  cases b with
  | jar s f =>
    obtain ⟨⟨h1, h2, h3, h4⟩, h5⟩ := h
    have z := w3_in (c := c) (a := 0) (b := 1) (d := 1 + c % 1000) (lo := 0) (hi := 1000000000) (by decide) (by decide) (by omega)
    exact ⟨⟨h1, h2, z.1, z.2⟩, h5⟩
  | win m p =>
    obtain ⟨⟨h1, h2, h3, h4⟩, h5⟩ := h
    have z := w3_in (c := c) (a := 50) (b := 1000000) (d := 1000000000000) (lo := 50) (hi := 1000000000000) (by decide) (by decide) (by decide)
    have y0 := Int.emod_nonneg c (show w3 c 50 1000000 1000000000000 ≠ 0 by omega)
    have y1 := Int.emod_lt_of_pos c (show 0 < w3 c 50 1000000 1000000000000 by omega)
    exact ⟨⟨h1, h2, by show 1 ≤ 1 + c % w3 c 50 1000000 1000000000000; omega, by show 1 + c % w3 c 50 1000000 1000000000000 ≤ 1000000000000; omega⟩, h5⟩
theorem bound_fine {c sc : Int} (h : 0 ≤ c) (h1 : 1 ≤ sc) (h2 : sc ≤ 40000000) : Fine (boundV c sc) := ⟨bound_ok h h1 h2, (bound_in h h1 h2).2.1⟩
theorem fine_mul {b : Bd} {k : Int} (h : Fine b) (hk : k = 1 ∨ k = 6) : (b.mulc k).ok := by
  cases b with
  | jar s f =>
    obtain ⟨⟨h1, h2, h3, h4⟩, h5⟩ := h
    have h1 : 1 ≤ s := h1
    have h5 : s ≤ 1000000000 := h5
    show 1 ≤ s * k ∧ s * k ≤ 1000000000000000 ∧ 0 ≤ f ∧ f ≤ 1000000000
    rcases hk with rfl | rfl <;> exact ⟨by omega, by omega, h3, h4⟩
  | win m p =>
    obtain ⟨⟨h1, h2, h3, h4⟩, h5⟩ := h
    have h1 : 1 ≤ m := h1
    have h5 : m ≤ 1000000000 := h5
    show 1 ≤ m * k ∧ m * k ≤ 1000000000000000 ∧ 1 ≤ p ∧ p ≤ 1000000000000
    rcases hk with rfl | rfl <;> exact ⟨by omega, by omega, h3, h4⟩
theorem bound_small (c sc : Int) : SmallB (boundV c sc) := by
  unfold boundV
  by_cases hc : c % 2 = 0
  · rw [if_pos hc]
    trivial
  · rw [if_neg hc]
    have d1 : 6 ≤ ([6, 40] : List Int).getD (c / 3200 % 2).toNat 0 ∧ ([6, 40] : List Int).getD (c / 3200 % 2).toNat 0 ≤ 40 := getD_in _ _ (by decide) (by simp only [List.length_cons, List.length_nil]; omega)
    generalize ([6, 40] : List Int).getD (c / 3200 % 2).toNat 0 = q at d1 ⊢
    have e1 := Int.emod_lt_of_pos (c / 80) (show 0 < q by omega)
    show 1 + c / 80 % q ≤ 40
    omega
theorem mul_small {b : Bd} {k : Int} (h : SmallB b) : SmallB (b.mulc k) := by
  cases b with
  | jar s f => trivial
  | win m p => exact h
theorem ev_ix3 {K : PySem.W.Frag} {ta tb td ti : TE} {σ : L2.St} {H : Hp} {a b d c : Int} (ha : Ev ta σ H (.int a)) (hb : Ev tb σ H (.int b)) (hd : Ev td σ H (.int d)) (hi : Ev ti σ H (.int (c % 3))) : Ev (tOp (rIxL K) (tLst (tCons ta (tCons tb (tCons td tNil)))) ti) σ H (.int (w3 c a b d)) := by
  have h3 : c % 3 = 0 ∨ c % 3 = 1 ∨ c % 3 = 2 := by omega
  refine ev_ixN (K := K) (ea_cons ha (ea_cons hb (ea_cons hd ea_nil))) hi (show 3 ≤ 100000 by decide) ?_
  unfold w3
  rcases h3 with h | h | h <;> rw [h] <;> rfl
def RWide (vs : List V) (H : Hp) (W : V → Hp → Prop) : Prop := ∃ p bd c, vs = [.ref p, .int c] ∧ H p = some (.tup (Bd.tup bd)) ∧ 0 ≤ c ∧ W = fun v H2 => ∃ p, v = .ref p ∧ H2 p = some (.tup (wideV c bd).tup)
theorem djw : decide (V.str "jar" = V.str "window") = false := by decide +kernel
theorem dww : decide (V.str "window" = V.str "window") = true := by decide +kernel
theorem tmeth_goW {C : Addr} {m : Str} {sp : Sp} {E : XK} {to tk tb : TE} {σ : L2.St} {H : Hp} {a dx : Addr} {fs : List (Str × V)} {k : V} {W : V → Hp → Prop} {Q : VK} (ho : Ev to σ H (.ref a)) (hx : H a = some (.ins C dx fs)) (hm : fs.lookup m = none) (hk : Ev tk σ H k) (hb : EvW tb σ H W) (q : ∀ v H1, Ex H H1 → W v H1 → sp [.ref a, k, v] H1 Q E) : tMeth C m sp [] E to (tCons tk (tCons tb tNil)) σ H Q :=
  ho H (Ex.refl H) _ fun H1 e1 => ⟨a, dx, fs, rfl, e1 _ _ hx, hm, hk H1 e1 _ fun H2 e2 => hb H2 (e1.trans e2) _ fun v H3 e3 w => q v H3 ((e1.trans e2).trans e3) w⟩
theorem et_notNW {te : TE} {σ : L2.St} {H : Hp} {W : V → Hp → Prop} {b : Bool} (h : EvW te σ H W) (k : ∀ v H1, W v H1 → (!decide (v = .non)) = b) : EvT (tB (tNotN te)) σ H b := fun H1 e Q q =>
  h H1 e _ fun v H2 e2 w => ⟨_, rfl, by
    rw [k v H2 w]
    exact q H2 e2⟩
/-- the bound changed to -/
def chV (c sc : Int) : Bd := (if 0 < sc then wideV (c / 4 / 16) (boundV (c / 4) (max 1 sc)) else boundV (c / 4) (max 1 sc)).mulc (if c / 2 % 2 = 0 then 1 else 6)
theorem ch_pre {c sc : Int} (h : 0 ≤ c) (h2 : sc ≤ 40000000) : Fine (boundV (c / 4) (max 1 sc)) := bound_fine (Int.ediv_nonneg h (by decide)) (by omega) (by omega)
/-- what a change of the law leaves -/
structure Chg10 (cJ cW cB : Addr) (T : List NdefX.NTab) (H : Hp) (b lb lr : Addr) (bds : List Bd) (rs : VS) (sc : Int) (l : Addr) (ts : List Addr) (bds' : List Bd) (H2 : Hp) : Prop where
  keep : ∀ a o, a ≠ lb → H a = some o → (∀ ps, o ≠ .tbl ps) → H2 a = some o
  t : NdefX.TabsN T H2
  B : BookAt cJ cW cB b lb lr bds' rs H2
  wf : B10 bds' rs
  len : bds'.length = bds.length
  hl : H2 l = some (.lst (ts.map V.ref))
  ht : Tups H2 ts bds'
  n : l ≠ lb ∧ l ≠ lr
  sm : sc = 0 → (∀ bd ∈ bds, SmallB bd) → ∀ bd ∈ bds', SmallB bd
def spChg10 (cJ cW cB : Addr) (T : List NdefX.NTab) : Sp := fun vs H Q _ => ∃ b lb lr lbp lv ts bds rs c sc, vs = [.ref b, .ref lbp, .ref lv, .int c, .int sc] ∧ BookAt cJ cW cB b lb lr bds rs H ∧ B10 bds rs ∧ H lbp = some (.lst (ts.map V.ref)) ∧ Tups H ts bds ∧ PairsT H lv rs ∧ lbp ≠ lb ∧ lbp ≠ lr ∧ lv ≠ lb ∧ 0 < bds.length ∧ 0 ≤ c ∧ 0 ≤ sc ∧ sc ≤ 40000000 ∧ NdefX.TabsN T H ∧
  ∀ l ts' bds' H2, Chg10 cJ cW cB T H b lb lr bds rs sc l ts' bds' H2 → Q (.ref l) H2
section
variable {P : Program} {w : World} {K : PySem.W.Frag} {mg : Str → Option Value} {base : Heap} {cJ cW cB cG : Addr} {cs : Nat → Addr} {Tb : List NdefX.NTab}
theorem cal_Lwide {f : Addr} {fd : FuncData} (F : C8.Def K mg "_law_wide" s_Lwide f fd) (b : Binds K fd ["_law_bound_here", "_law_cell_here"] []) : C8.Cal P w K mg base 1 "_law_wide" (spW RWide) [] := by
  refine calW F b sc_Lwide (fun vs H v h => ?_) (fun cdv A outer s H vs W E hr h => ?_)
  · obtain ⟨p, bd, c, rfl, _⟩ := h
    rfl
  · obtain ⟨p, bd, c, rfl, hp, c0, rfl⟩ := h
    refine ⟨_, (pss_cons (ps_if (pt_cmpR op_eq (pe_ix ix_tup (pv 0) pe_int (fun _ _ => rfl)) pe_str (nomark _))
    (pss_one (ps_ret (pe_tup (pa_cons pe_str (pa_cons (pe_ix ix_tup (pv 0) pe_int (fun _ _ => rfl)) (pa_cons (pe_op op_add pe_int (pe_op op_mod (pv 1) (pe_ix ix_list (pe_lst (pa_cons pe_int (pa_cons (pe_op op_pow pe_int pe_int) (pa_cons (pe_op op_pow pe_int pe_int) pa_nil)))) (pe_op op_mod (pv 1) pe_int) (fun _ _ => rfl)))) pa_nil))))))
    pss_nil)
  (pss_one (ps_ret (pe_tup (pa_cons pe_str (pa_cons (pe_ix ix_tup (pv 0) pe_int (fun _ _ => rfl)) (pa_cons (pe_ix ix_list (pe_lst (pa_cons pe_int (pa_cons pe_int (pa_cons (pe_op op_add pe_int (pe_op op_mod (pv 1) pe_int)) pa_nil)))) (pe_op op_mod (pv 1) pe_int) (fun _ _ => rfl)) pa_nil))))))), ?_⟩
    have hT : SqT K H p bd.tup := st_of hp
    have m3 : ∀ {σ : L2.St} {H1 : Hp}, σ[1]? = some (some (.int c)) → Ev (tOp (rI (fun _ j => 0 < j) fun i j => V.int (i % j)) (tVar 1) (tC (.int 3))) σ H1 (.int (c % 3)) := fun h => ev_op (ev_var h) ev_c (rv_I (by decide))
    cases bd with
    | jar s f =>
      have e1 : atI (Bd.tup (.jar s f)) 1 = some (.int s) := rfl
      refine rtw_ifseq (b := false) (et_is (et_test (ev_op (ev_ixT (v := .str "jar") (ev_var rfl) ev_c hT rfl) ev_c (rv_eq rfl))) djw) (fun z => by cases z) fun _ => ?_
      exact rtw_ret (evw_tup (vs := (wideV c (.jar s f)).tup) (eu_tup (ea_cons ev_c (ea_cons (ev_ixT (ev_var rfl) ev_c hT e1) (ea_cons (ev_ix3 ev_c ev_c (ev_op ev_c (ev_op (ev_var rfl) ev_c (rv_I (by decide))) rv_I0) (m3 rfl)) ea_nil))) (show 3 ≤ 100000 by decide)))
    | win m p =>
      have e1 : atI (Bd.tup (.win m p)) 1 = some (.int m) := rfl
      have z := w3_in (c := c) (a := 50) (b := 1000000) (d := 1000000000000) (lo := 50) (hi := 1000000000000) (by decide) (by decide) (by decide)
      refine rtw_ifseq (b := true) (et_is (et_test (ev_op (ev_ixT (v := .str "window") (ev_var rfl) ev_c hT rfl) ev_c (rv_eq rfl))) dww) (fun _ => ?_) fun z => by cases z
      exact rtw_ret (evw_tup (vs := (wideV c (.win m p)).tup) (eu_tup (ea_cons ev_c (ea_cons (ev_ixT (ev_var rfl) ev_c hT e1) (ea_cons (ev_op ev_c (ev_op (ev_var rfl) (ev_ix3 (c := c) ev_c (ev_op (z := .int 1000000) ev_c ev_c (rv_I ⟨by decide, by decide, by decide⟩)) (ev_op (z := .int 1000000000000) ev_c ev_c (rv_I ⟨by decide, by decide, by decide⟩)) (m3 rfl)) (rv_I (by omega))) rv_I0) ea_nil))) (show 3 ≤ 100000 by decide)))
theorem cal_Lchanged {f : Addr} {fd : FuncData} (T : Blt mg) (c_Lbound : C8.Cal P w K mg base 1 "_law_bound" (spW RBound) []) (c_Lwide : C8.Cal P w K mg base 1 "_law_wide" (spW RWide) []) (c_Lfirst : C8.Cal P w K mg base 2 "_law_first" (spW RLF) []) (c_Lmade : C8.Cal P w K mg base 4 "_law_made" (spW (RMade cJ cW)) []) (t_Book_change : MetX P w K mg base 6 cB "change" (spChange K cJ cW cB cs Tb)) (F : C8.Def K mg "_law_changed" s_Lchanged f fd) (b : Binds K fd ["_law_book", "_law_bounds", "_law_visits", "_law_cell_here", "_law_scale_here"] []) : C8.Cal P w K mg base 7 "_law_changed" (spChg10 cJ cW cB Tb) [] := by
  refine C8.cal0 F b .nil sc_Lchanged (fun vs H Q E h => ?_) (fun cdv A outer s H vs Q E hr h => ?_)
  · obtain ⟨b, lb, lr, lbp, lv, ts, bds, rs, c, sc, rfl, _⟩ := h
    rfl
  · obtain ⟨b, lb, lr, lbp, lv, ts, bds, rs, c, sc, rfl, B, wf, hl, ht, hP, n1, n2, n3, hpos, c0, s0, s1, hT, q⟩ := h
    refine ⟨_, (pss_cons (ps_set (i := 5) sc_Lchanged.nd rfl (Or.inl rfl) (C8.pe_c c_Lbound hr (by decide) rfl (pa_cons (pe_op op_fdiv (pv 3) pe_int) (pa_cons (pe_callB (call_max2 rfl) (by rfl) T.b_max boot_max (pa_cons pe_int (pa_cons (pv 4) pa_nil))) pa_nil))))
  (pss_cons (ps_if (pt_cmpR op_gt (pv 4) pe_int (nomark _))
    (pss_one (ps_set (i := 5) sc_Lchanged.nd rfl (Or.inl rfl) (C8.pe_c c_Lwide hr (by decide) rfl (pa_cons (pv 5) (pa_cons (pe_op op_fdiv (pv 3) pe_int) pa_nil)))))
    pss_nil)
  (pss_cons (ps_set (i := 5) sc_Lchanged.nd rfl (Or.inl rfl) (pe_tup (pa_cons (pe_ix ix_tup (pv 5) pe_int (fun _ _ => rfl)) (pa_cons (pe_op op_mul (pe_ix ix_tup (pv 5) pe_int (fun _ _ => rfl)) (pe_ix ix_list (pe_lst (pa_cons pe_int (pa_cons pe_int pa_nil))) (pe_op op_mod (pe_op op_fdiv (pv 3) pe_int) pe_int) (fun _ _ => rfl))) (pa_cons (pe_ix ix_tup (pv 5) pe_int (fun _ _ => rfl)) pa_nil)))))
  (pss_cons (ps_set (i := 6) sc_Lchanged.nd rfl (Or.inl rfl) (pe_op op_mod (pv 3) (pe_callB call_len_seq (by rfl) T.b_len boot_len (pa_cons (pv 1) pa_nil))))
  (pss_cons (ps_if (pt_cmp (pc_notN (C8.pe_c c_Lfirst hr (by decide) rfl (pa_cons (pv 5) (pa_cons (pv 2) pa_nil)))))
    (pss_one (ps_ret (pv 1)))
    pss_nil)
  (pss_cons (ps_expr (pe_mX t_Book_change passF hr (by decide) (pv 0) (pa_cons (pv 6) (pa_cons (C8.pe_c c_Lmade hr (by decide) rfl (pa_cons (pv 5) pa_nil)) pa_nil))))
  (pss_one (ps_ret (pe_op op_cat (pe_op op_cat (pe_slice sl_list (pv 1) po_none (po_some (pv 6))) (pe_lst (pa_cons (pv 5) pa_nil))) (pe_slice sl_list (pv 1) (po_some (pe_op op_add (pv 6) pe_int)) po_none)))))))))), ?_⟩
    have len := Paired.length ht
    refine EvW.go (evw_callW (ea_cons (ev_op (ev_var rfl) ev_c (rv_I ⟨by decide, by decide⟩)) (ea_cons (ev_max ev_c (ev_var rfl)) ea_nil)) fun H1 e1 => ⟨c / 4, max 1 sc, rfl, Int.ediv_nonneg c0 (by decide), by omega, by omega, rfl⟩) fun v H1 e1 ⟨p0, ev, hp0⟩ => ?_
    subst ev
    have fn0 := ch_pre c0 s1
    have sm0 : SmallB (boundV (c / 4) (max 1 sc)) := bound_small _ _
    generalize boundV (c / 4) (max 1 sc) = b0 at hp0 fn0 sm0
    -- wider
    refine q_mid (fun σ' H' => ∃ p1 b1, σ' = [some (.ref b), some (.ref lbp), some (.ref lv), some (.int c), some (.int sc), some (.ref p1), none] ∧ Ex H H' ∧ H' p1 = some (.tup (Bd.tup b1)) ∧ Fine b1 ∧ (sc = 0 → SmallB b1)) (fun σ' H2 hM => ?_) fun kM => ?_
    rotate_left
    · have tst : EvT (tTest (tOp (rI0 fun i j => V.bl (decide (i > j))) (tVar 4) (tC (.int 0)))) [some (.ref b), some (.ref lbp), some (.ref lv), some (.int c), some (.int sc), some (.ref p0), none] H1 (decide (sc > 0)) := et_test (ev_op (ev_var rfl) ev_c rv_I0)
      refine s_when (D := { nx := _, rt := Q, bk := _, ct := _ }) tst (fun hz H2 e2 => ?_) fun hz H2 e2 => kM _ _ ⟨p0, b0, rfl, e1.trans e2, e2 _ _ hp0, fn0, fun _ => sm0⟩
      have hz := of_decide_eq_true hz
      refine (evw_callW (ea_cons (ev_var (v := .ref p0) rfl) (ea_cons (ev_op (ev_var (v := .int c) rfl) ev_c (rv_I ⟨by decide, by decide⟩)) ea_nil)) fun H3 e3 => ⟨p0, b0, c / 64, rfl, (e2.trans e3) _ _ hp0, Int.ediv_nonneg c0 (by decide), rfl⟩ : EvW _ _ H2 _) H2 (Ex.refl _) _ fun v H3 e3 ⟨p1, ev, hp1⟩ => ?_
      subst ev
      exact kM _ _ ⟨p1, _, rfl, (e1.trans e2).trans e3, hp1, wide_fine fn0, fun z => by omega⟩
    obtain ⟨p1, b1, rfl, e02, hp1, fn1, sm1⟩ := hM
    have i2 : c / 2 % 2 = 0 ∨ c / 2 % 2 = 1 := by omega
    have eM : Ev (tOp (rIxL K) (tLst (tCons (tC (.int 1)) (tCons (tC (.int 6)) tNil))) (tOp (rI (fun _ j => 0 < j) fun i j => V.int (i % j)) (tOp (rI CDiv fun i j => V.int (i / j)) (tVar 3) (tC (.int 2))) (tC (.int 2)))) [some (.ref b), some (.ref lbp), some (.ref lv), some (.int c), some (.int sc), some (.ref p1), none] H2 (.int (if c / 2 % 2 = 0 then 1 else 6)) :=
      ev_ixN (K := K) (ea_cons ev_c (ea_cons ev_c ea_nil)) (ev_op (ev_op (ev_var rfl) ev_c (rv_I ⟨by decide, by decide⟩)) ev_c (rv_I (by decide))) (show 2 ≤ 100000 by decide) (by rcases i2 with h | h <;> rw [h] <;> rfl)
    have kk : (if c / 2 % 2 = 0 then (1 : Int) else 6) = 1 ∨ (if c / 2 % 2 = 0 then (1 : Int) else 6) = 6 := by split <;> simp
    have bok := fine_mul fn1 kk
    have sm2 : sc = 0 → SmallB (b1.mulc (if c / 2 % 2 = 0 then (1 : Int) else 6)) := fun z => mul_small (sm1 z)
    have mt := mulc_tup (if c / 2 % 2 = 0 then (1 : Int) else 6) b1
    have bc := fn1.2
    have bp : 1 ≤ b1.cap := by cases b1 <;> exact fn1.1.1
    have hT1 : SqT K H2 p1 b1.tup := st_of hp1
    generalize (if c / 2 % 2 = 0 then (1 : Int) else 6) = mu at eM kk bok sm2 mt
    refine q_asgU (xs := (b1.mulc mu).tup) (by
      rw [mt]
      exact eu_tup (ea_cons (ev_ixT (v := .str b1.nm) (ev_var rfl) ev_c hT1 (by cases b1 <;> rfl)) (ea_cons (ev_op (ev_ixT (v := .int b1.cap) (ev_var rfl) ev_c hT1 (by cases b1 <;> rfl)) eM (rv_I (.inr ⟨by omega, by omega⟩))) (ea_cons (ev_ixT (v := .int b1.two) (ev_var rfl) ev_c hT1 (by cases b1 <;> rfl)) ea_nil))) (show 3 ≤ 100000 by decide)) fun bp H3 _ e3 hbp => ?_
    generalize b1.mulc mu = bd at hbp bok sm2
    clear mt bc hT1 hp1 fn1 sm1 kk eM
    have e03 := e02.trans e3
    obtain ⟨kn, hkn⟩ : ∃ kn : Nat, c % (bds.length : Int) = (kn : Int) := ⟨(c % (bds.length : Int)).toNat, by rw [Int.toNat_of_nonneg (Int.emod_nonneg _ (by omega))]⟩
    have hkl : kn < bds.length := by
      have := Int.emod_lt_of_pos c (show (0 : Int) < bds.length by omega)
      omega
    refine q_asg (v := .int (kn : Int)) (ev_is (ev_op (ev_var (v := .int c) rfl) (ev_lenL (K := K) (ev_var rfl) (sq_of (e03 _ _ hl))) (rv_I (by rw [List.length_map, ← len]; omega))) (by rw [List.length_map, ← len, hkn])) fun H4 e4 => ?_
    have e04 := e03.trans e4
    have hP4 := hP.mono e04
    -- does the row keep it?
    have fw := firstW (tp := tVar 5) (tv := tVar 2) (σ := [some (.ref b), some (.ref lbp), some (.ref lv), some (.int c), some (.int sc), some (.ref bp), some (.int (kn : Int))]) (ev_var rfl) (ev_var rfl) (e4 _ _ hbp) hP4 wf.ok bok (by have := wf.hn; omega)
    cases hf : brkF bd rs with
    | some st =>
      refine q_when (b := true) (et_notNW fw fun v H1 h => ?_) (fun _ H5 e5 => ?_) fun z => by cases z
      · rw [hf] at h
        obtain ⟨pp, ev, _⟩ := h
        subst ev
        rfl
      · refine (ev_var (v := .ref lbp) rfl : Ev (tVar 1) _ H5 (.ref lbp)) H5 (Ex.refl _) _ fun H6 e6 => ?_
        have e06 := e04.trans (e5.trans e6)
        exact q lbp ts bds H6 ⟨fun a o _ h _ => e06 _ _ h, hT.ext e06, B.mono e06, wf, rfl, e06 _ _ hl, ht.mono e06, ⟨n1, n2⟩, fun _ h => h⟩
    | none =>
      refine q_when (b := false) (et_notNW fw fun v H1 h => ?_) (fun z => by cases z) fun _ H5 e5 => ?_
      · rw [hf] at h
        have ev : v = .non := h
        subst ev
        rfl
      have e05 := e04.trans e5
      have B5 := B.mono e05
      obtain ⟨dx, hob⟩ := B5.ob
      have kp := (keeps_iff wf.ok bok).mp hf
      refine tmeth_goW (ev_var rfl) hob rfl (ev_var (v := .int (kn : Int)) rfl) (evw_callW (ea_cons (ev_var (v := .ref bp) rfl) ea_nil) fun H6 e6 => ⟨bp, bd, rfl, (e4.trans (e5.trans e6)) _ _ hbp, bok, rfl⟩) fun v H6 e6 ⟨y, ev, hy⟩ => ?_
      subst ev
      have e06 := e05.trans e6
      refine ⟨b, lb, lr, bds, rs, .int (kn : Int), .ref y, rfl, B.mono e06, wf.h4, wf.ok, wf.im, by have := wf.hn; omega, hT.ext e06, .inl ⟨_, rfl⟩, .inr ⟨kn, rfl, hkl, .inr ⟨y, bd, rfl, hy, bok, fun q hq => (by rw [hf] at hq; cases hq), fun _ H7 keep t7 B7 => ?_⟩⟩⟩
      have hlb7 : H7 lbp = some (.lst (ts.map V.ref)) := keep _ _ n1 (e06 _ _ hl) fun ps z => by cases z
      have alive : ∃ ys : List V, H6 lb = some (.lst ys) := by
        obtain ⟨ys, h1, _⟩ := (B.mono e06).bs
        exact ⟨_, h1⟩
      obtain ⟨oys, hol⟩ := alive
      have tk : ∀ {t : Addr} {xs : List V}, H6 t = some (.tup xs) → H7 t = some (.tup xs) := fun h => keep _ _ (ne_of h hol (by intro h; cases h)) h fun ps z => by cases z
      have ht7 : Tups H7 ts bds := paired_imp ht fun _ _ z => tk (e06 _ _ z)
      have hbp7 : H7 bp = some (.tup bd.tup) := tk (e6 _ _ (e5 _ _ (e4 _ _ hbp)))
      have sl1 : EvL (tSl (rSlL K) (tVar 1) tNoPart (tPart (tVar 6))) [some (.ref b), some (.ref lbp), some (.ref lv), some (.int c), some (.int sc), some (.ref bp), some (.int (kn : Int))] H7 ((ts.take kn).map V.ref) := by
        have z := el_sl (K := K) (σ := [some (.ref b), some (.ref lbp), some (.ref lv), some (.int c), some (.int sc), some (.ref bp), some (.int (kn : Int))]) (H := H7) (lo := none) (hi := some ((kn : Nat) : Int)) (te := tVar 1) (tl := tNoPart) (th := tPart (tVar 6)) (ev_var rfl) eo_none (eo_some (ev_var rfl)) (sq_of hlb7)
        rw [sl_take _ _ (by rw [List.length_map]; omega), ← List.map_take] at z
        exact z
      have one : EvL (tLst (tCons (tVar 5) tNil)) [some (.ref b), some (.ref lbp), some (.ref lv), some (.int c), some (.int sc), some (.ref bp), some (.int (kn : Int))] H7 [.ref bp] := el_lst (ea_cons (ev_var rfl) ea_nil) (show 1 ≤ 100000 by decide)
      have sl2 : EvL (tSl (rSlL K) (tVar 1) (tPart (tOp (rI0 fun i j => V.int (i + j)) (tVar 6) (tC (.int 1)))) tNoPart) [some (.ref b), some (.ref lbp), some (.ref lv), some (.int c), some (.int sc), some (.ref bp), some (.int (kn : Int))] H7 ((ts.drop (kn + 1)).map V.ref) := by
        have z := el_sl (K := K) (σ := [some (.ref b), some (.ref lbp), some (.ref lv), some (.int c), some (.int sc), some (.ref bp), some (.int (kn : Int))]) (H := H7) (lo := some (((kn + 1 : Nat)) : Int)) (hi := none) (te := tVar 1) (tl := tPart (tOp (rI0 fun i j => V.int (i + j)) (tVar 6) (tC (.int 1)))) (th := tNoPart) (ev_var rfl) (eo_some (ev_is (ev_op (ev_var rfl) ev_c rv_I0) (by rw [Int.natCast_add]; rfl))) eo_none (sq_of hlb7)
        rw [sl_drop _ _ (by rw [List.length_map]; omega), ← List.map_drop] at z
        exact z
      have h4 := wf.h4
      refine (el_catNN (el_catNN sl1 one (by rw [List.length_map, List.length_take]; show _ + 1 ≤ _; omega)) sl2 (by rw [List.length_append, List.length_map, List.length_map, List.length_take, List.length_drop]; show _ + 1 + _ ≤ _; omega) : EvL _ _ H7 _) H7 (Ex.refl _) _ fun pl H8 npl e8 hpl => ?_
      obtain ⟨ys7, hlb7', _⟩ := B7.bs
      obtain ⟨ps7, hlr7, _⟩ := B7.rows
      refine q pl (ts.set kn bp) (bds.set kn bd) H8 ⟨fun a o na h no => e8 _ _ (keep a o na (e06 _ _ h) no), t7.ext e8, B7.mono e8, ⟨fun x hx => ?_, by rw [List.length_set]; exact wf.h4, wf.ok, wf.im, wf.hn, wf.ic, fun x hx => ?_⟩, by rw [List.length_set], ?_, paired_set (ht7.mono e8) (e8 _ _ hbp7) kn, ⟨fun z => (by rw [z, hlb7'] at npl; cases npl), fun z => (by rw [z, hlr7] at npl; cases npl)⟩, fun z0 sm x hx => ?_⟩
      · rcases List.mem_or_eq_of_mem_set hx with z | z
        · exact wf.bok x z
        · rw [z]
          exact bok
      · rcases List.mem_or_eq_of_mem_set hx with z | z
        · exact wf.kp x z
        · rw [z]
          exact kp
      · rw [List.set_eq_take_append_cons_drop, if_pos (by omega), List.map_append, List.map_cons]
        rw [List.append_assoc] at hpl
        exact hpl
      · rcases List.mem_or_eq_of_mem_set hx with z | z
        · exact sm x z
        · rw [z]
          exact sm2 z0
end
/-! a full book of the law -/
def sumC : VS → Int
  | [] => 0
  | q :: r => q.2 + sumC r
theorem sumC_app : ∀ xs ys : VS, sumC (xs ++ ys) = sumC xs + sumC ys
  | [], ys => by rw [List.nil_append, sumC, Int.zero_add]
  | q :: r, ys => by rw [List.cons_append, sumC, sumC, sumC_app r ys, Int.add_assoc]
theorem sumC_ins (rs : VS) (t c : Int) : sumC (insB rs t c) = sumC rs + c := by
  unfold insB
  have e : sumC rs = sumC (rs.take (plc rs t)) + sumC (rs.drop (plc rs t)) := by rw [← sumC_app, List.take_append_drop]
  rw [sumC_app, sumC, e]
  show _ + (c + _) = _
  omega
theorem sumM_one {t : Int} (a b : Int) : ∀ {rs : VS}, (∀ q ∈ rs, q.1 = t) → sumM rs a b = if a ≤ t ∧ t ≤ b then sumC rs else 0
  | [], _ => by
    rw [sumM, sumC]
    split <;> rfl
  | q :: r, h => by
    rw [sumM, sumC, sumM_one a b fun x hx => h x (List.mem_cons_of_mem _ hx), h q List.mem_cons_self]
    by_cases z : a ≤ t ∧ t ≤ b
    · rw [if_pos z, if_pos z, if_pos z]
    · rw [if_neg z, if_neg z, if_neg z]
      rfl
structure R40 (t k : Int) (i : Nat) (rs : VS) : Prop where
  ok : VOk rs
  im : InM rs
  len : rs.length = i
  at_ : ∀ q ∈ rs, q.1 = t
  s : sumC rs = k * (i : Int)
theorem R40.nil (t k : Int) : R40 t k 0 [] := ⟨⟨fun i h => absurd h (Nat.not_lt_zero _), fun i j _ h => absurd h (Nat.not_lt_zero _)⟩, fun q h => (by cases h), rfl, fun q h => (by cases h), by rw [sumC]; simp⟩
theorem R40.ins {t k : Int} {i : Nat} {rs : VS} (h : R40 t k i rs) (hk : 1 ≤ k) (t0 : 0 ≤ t) (t1 : t ≤ 1000000000000) : R40 t k (i + 1) (insB rs t k) := by
  refine ⟨ins_ok h.ok hk, fun q hq => ?_, by rw [ins_len, h.len], fun q hq => ?_, by rw [sumC_ins, h.s, Int.natCast_add, Int.mul_add]; show _ + k = _ + k * 1; omega⟩
  · rcases ins_mem hq with z | z
    · exact h.im q z
    · rw [z]
      exact ⟨t0, t1⟩
  · rcases ins_mem hq with z | z
    · exact h.at_ q z
    · rw [z]
theorem R40.keeps {t : Int} {i : Nat} {rs : VS} (h : R40 t 1 i rs) (hi : i ≤ 40) : KeepsM (.jar 40 1) rs := fun a b r hab hr => by
  rw [sumM_one a b h.at_, h.s]
  injection hr with hr
  have hr : 40 + 1 * (b - a) = r := hr
  split <;> omega
theorem R40.early {t : Int} {rs : VS} (h : R40 t 1 40 rs) : EarlyIs [.jar 40 1] rs t 3 (some (t + 3)) := by
  have kp := h.keeps (Nat.le_refl _)
  refine ⟨by omega, fun bd hb => ?_, fun u h1 h2 z => ?_⟩
  · rw [List.mem_singleton.mp hb]
    refine (keeps_ins kp).mpr fun a b r ha hb hr => ?_
    rw [sumM_one a b h.at_, h.s]
    injection hr with hr
    have hr : 40 + 1 * (b - a) = r := hr
    split <;> omega
  · have y := (keeps_ins kp).mp (z _ List.mem_cons_self) t u (40 + 1 * (u - t)) h1 (Int.le_refl _) rfl
    rw [sumM_one t u h.at_, h.s, if_pos ⟨Int.le_refl _, h1⟩] at y
    omega
theorem andv_go {ta tb : TE} {σ : L2.St} {H : Hp} {Q : VK} (h : ta σ H fun x H1 => ∃ c, x = .bl c ∧ if c = true then tb σ H1 Q else Q (.bl false) H1) : tAndV ta tb σ H Q := h
theorem BookAt.keep {cJ cW cB b lb lr b1 d1 lb1 lr1 : Addr} {bds : List Bd} {rs : VS} {H H2 : Hp} (B : BookAt cJ cW cB b lb lr bds rs H) (h1 : H b1 = some (.ins cB d1 (fBook lb1 lr1))) (nb : b ≠ b1) (keep : ∀ a o, a ≠ b1 → H a = some o → (∀ ps, o ≠ .tbl ps) → H2 a = some o) : BookAt cJ cW cB b lb lr bds rs H2 := by
  obtain ⟨⟨d, ho⟩, ⟨ys, h2, h3⟩, ⟨ps, h4, h6⟩, h5⟩ := B
  have kp : ∀ {a : Addr} {o : HO}, H a = some o → (∀ C d fs, o ≠ .ins C d fs) → (∀ ps, o ≠ .tbl ps) → H2 a = some o := fun {a o} h n1 n2 => keep a o (fun z => by rw [z, h1] at h; injection h with h; exact n1 _ _ _ h.symm) h n2
  refine ⟨⟨d, keep _ _ nb ho fun ps z => (by cases z)⟩, ⟨ys, kp h2 (fun _ _ _ z => (by cases z)) (fun _ z => (by cases z)), paired_imp h3 fun bd y z => ?_⟩, ⟨ps, kp h4 (fun _ _ _ z => (by cases z)) (fun _ z => (by cases z)), paired_imp h6 fun _ _ z => kp z (fun _ _ _ z => by cases z) fun _ z => by cases z⟩, h5⟩
  cases bd with
  | jar s f =>
    obtain ⟨dy, hy⟩ := z
    refine ⟨dy, keep _ _ (fun z => ?_) hy fun ps z => by cases z⟩
    rw [z, h1] at hy
    injection hy with hy
    injection hy with _ _ hy
    exact absurd hy (by unfold fBook fJar; intro z; injection z with z _; injection z with z _; exact absurd z (by decide))
  | win m p =>
    obtain ⟨dy, hy⟩ := z
    refine ⟨dy, keep _ _ (fun z => ?_) hy fun ps z => by cases z⟩
    rw [z, h1] at hy
    injection hy with hy
    injection hy with _ _ hy
    exact absurd hy (by unfold fBook fWin; intro z; injection z with z _; injection z with z _; exact absurd z (by decide))
def spEnds10 (T : List NdefX.NTab) : Sp := fun vs H Q _ => ∃ t, vs = [.int t] ∧ 0 ≤ t ∧ t ≤ 1000000000000 ∧ NdefX.TabsN T H ∧ ∀ H2, Q (.bl true) H2
section
variable {P : Program} {w : World} {K : PySem.W.Frag} {mg : Str → Option Value} {base : Heap} {cJ cW cB cG : Addr} {cs : Nat → Addr} {Tb : List NdefX.NTab}
theorem put_two {b lb lr b' lb' lr' : Addr} {bds bds' : List Bd} {rs rs' : VS} {H : Hp} {σ : L2.St} {E : XK} {to : TE} {ta : TA} {t c : Int} {Q : VK} (B : BookAt cJ cW cB b lb lr bds rs H) (B' : BookAt cJ cW cB b' lb' lr' bds' rs' H) (nb : b' ≠ b) (bok : ∀ bd ∈ bds, bd.ok) (h4 : bds.length ≤ 4) (ok : VOk rs) (im : InM rs) (hn : rs.length < 40) (nf : ∀ bd ∈ bds, KeepsM bd (insB rs t c)) (hT : NdefX.TabsN Tb H)
    (ho : Ev to σ H (.ref b)) (hA : EvA ta σ H [.int t, .int c]) (c0 : 1 ≤ c) (c1 : c ≤ 1000000000) (t0 : 0 ≤ t) (t1 : t ≤ 1000000000000)
    (q : ∀ H2 lr2, BookAt cJ cW cB b lb lr2 bds (insB rs t c) H2 → BookAt cJ cW cB b' lb' lr' bds' rs' H2 → NdefX.TabsN Tb H2 → Q .non H2) : tMeth cB "put" (spPut K cJ cW cB cs Tb) [] E to ta σ H Q := by
  obtain ⟨dx, hob⟩ := B.ob
  refine tmeth_go ho hob rfl hA fun H1 e1 => ?_
  have nf2 : fstB bds (insB rs t c) 0 = none := fst_none fun bd hb => (keeps_iff (ins_ok ok c0) (bok bd hb)).mpr (nf bd hb)
  refine ⟨b, lb, lr, bds, rs, .int t, .int c, rfl, B.mono e1, bok, h4, ok, im, by omega, hT.ext e1, .inl ⟨_, rfl⟩, .inl ⟨_, rfl⟩, .inr ⟨t, rfl, inR_t t0 t1, .inr ⟨c, rfl, inR_t c0 c1, .inr ⟨hn, fun k qq hf => (by rw [nf2] at hf; cases hf), fun _ H2 lr' _ keep t2 B2 => ?_⟩⟩⟩⟩
  exact q H2 lr' B2 ((B'.mono e1).keep (e1 _ _ hob) nb keep) t2
theorem eqE_go {H : Hp} {σ : L2.St} {E : XK} {to tb : TE} {ta : TA} {b lb lr : Addr} {bds : List Bd} {rs : VS} {t c e : Int} {Q : VK} (B : BookAt cJ cW cB b lb lr bds rs H) (bok : ∀ bd ∈ bds, bd.ok) (h4 : bds.length ≤ 4) (ok : VOk rs) (kp : ∀ bd ∈ bds, KeepsM bd rs) (hn : rs.length ≤ 40) (hT : NdefX.TabsN Tb H) (t0 : 0 ≤ t) (t1 : t ≤ 1000000000000) (c0 : 1 ≤ c) (c1 : c ≤ 1000000000) (er : EarlyIs bds rs t c (some e))
    (ho : Ev to σ H (.ref b)) (hA : EvA ta σ H [.int t, .int c]) (hb : ∀ H2, Ev tb σ H2 (.int e)) (q : ∀ H2, LamX.ExtN H H2 → NdefX.TabsN Tb H2 → Q (.bl true) H2) : tOp rEq (tMeth cB "earliest" (spEarly K cJ cW cB cs Tb) [] E to ta) tb σ H Q :=
  erl_go B bok h4 ok kp hn hT t0 t1 c0 c1 ho hA fun H2 e2 t2 => by
    rw [early_one (erl_is bds rs t c) er]
    refine hb H2 H2 (Ex.refl _) _ fun H3 e3 => (rv_eq rfl : RV rEq (.int e) (.int e) H3 _) H3 (Ex.refl _) _ fun H4 e4 => ?_
    rw [decide_eq_true rfl]
    exact q H4 (e2.trans (Ex.extN (e3.trans e4))) (t2.ext (e3.trans e4))
theorem cal_Lends {f : Addr} {fd : FuncData} (T : Blt mg) (m_Jar : C8.Mak P w K mg base 2 "Jar" cJ (spI cJ DJar (JJar cJ)) []) (m_Book : MakX P w K mg base 3 "Book" cB (spBInit K cJ cW cB (cs 0)) ["self", "bounds"]) (t_Book_put : MetX P w K mg base 6 cB "put" (spPut K cJ cW cB cs Tb)) (t_Book_earliest : MetX P w K mg base 6 cB "earliest" (spEarly K cJ cW cB cs Tb)) (F : C8.Def K mg "_law_ends" s_Lends f fd) (b : Binds K fd ["_law_begin"] []) : C8.Cal P w K mg base 7 "_law_ends" (spEnds10 Tb) [] := by
  refine C8.cal0 F b .nil sc_Lends (fun vs H Q E h => ?_) (fun cdv A outer s H vs Q E hr h => ?_)
  · obtain ⟨t, rfl, _⟩ := h
    rfl
  · obtain ⟨t, rfl, t0, t1, hT, q⟩ := h
    refine ⟨_, (pss_cons (ps_set (i := 1) sc_Lends.nd rfl (Or.inl rfl) (pe_mkX9 m_Book passF hr (by decide) rfl (pa_cons (pe_lst pa_nil) pa_nil)))
  (pss_cons (ps_set (i := 2) sc_Lends.nd rfl (Or.inl rfl) (pe_mkX9 m_Book passF hr (by decide) rfl (pa_cons (pe_lst (pa_cons (C8.pe_mk m_Jar hr (by decide) rfl (pa_cons pe_int (pa_cons pe_int pa_nil))) pa_nil)) pa_nil)))
  (pss_cons (ps_for PassesOwn.never rfl (pi_range1 rfl T.b_range (pa_cons pe_int pa_nil)) (pg_name (i := 3) sc_Lends.nd rfl (Or.inl rfl))
    (pss_cons (ps_expr (pe_mX t_Book_put passF hr (by decide) (pv 1) (pa_cons (pv 0) (pa_cons pe_int pa_nil))))
    (pss_one (ps_expr (pe_mX t_Book_put passF hr (by decide) (pv 2) (pa_cons (pv 0) (pa_cons pe_int pa_nil)))))))
  (pss_one (ps_ret (pe_and (pe_cmpR op_eq (pe_mX t_Book_earliest passF hr (by decide) (pv 1) (pa_cons (pv 0) (pa_cons pe_int pa_nil))) (pv 0) (nomark _)) (pe_one (pe_cmpR op_eq (pe_mX t_Book_earliest passF hr (by decide) (pv 2) (pa_cons (pv 0) (pa_cons pe_int pa_nil))) (pe_op op_add (pv 0) pe_int) (nomark _))))))))), ?_⟩
    refine q_make1 (lstE_go ⟨(by show 0 ≤ sizeLine; decide), fun tp ntp => ?_⟩)
    have e1 := Ex.new (o := HO.lst []) ntp
    have htp : upd H tp (.lst []) tp = some (.lst []) := upd_same
    generalize upd H tp (.lst []) = H1 at e1 htp
    intro b1 d1 nb1 nd1 ne1
    have eb1 : Ex H1 (upd (upd H1 d1 (.own b1)) b1 (.ins cB d1 [])) := (Ex.new nd1).trans (Ex.new (by rw [upd_ne ne1.symm]; exact nb1))
    refine ⟨b1, d1, tp, [], rfl, upd_same, .inl (sq_of (eb1 _ _ htp)), (by show 0 ≤ 1000; decide), .inl ⟨[], ⟨[], rfl, .nil, (by show 0 ≤ 4; decide)⟩, fun lb1 lr1 H2 keep1 nlb1 nlr1 B1 => ⟨rfl, ?_⟩⟩⟩
    have e12 : Ex H1 H2 := fun x o hx => keep1 x o (fun z => by rw [z, nb1] at hx; cases hx) (eb1 _ _ hx)
    have hT2 := hT.ext (e1.trans e12)
    refine q_make1 (lstE_go ?_)
    refine (tcons_go (evw_make (vs := [.int 40, .int 1]) (ea_cons ev_c (ea_cons ev_c ea_nil)) ⟨40, 1, rfl, by decide, by decide, by decide, by decide⟩) fun v HA eA ⟨y, dy, ev, s3, f3, w5, w6⟩ => ⟨(by show 1 ≤ sizeLine; decide), fun tp ntp => ?_⟩)
    subst ev
    cases w5
    have eB := Ex.new (o := HO.lst [.ref y]) ntp
    have e2B := eA.trans eB
    have hy : BdAt cJ cW (.jar 40 1) y (upd HA tp (.lst [.ref y])) := ⟨dy, eB _ _ w6⟩
    have htp : upd HA tp (.lst [.ref y]) tp = some (.lst [.ref y]) := upd_same
    generalize upd HA tp (.lst [.ref y]) = HB at eB e2B hy htp
    intro b2 dx2 nb2 ndx2 ne2
    have eb2 : Ex HB (upd (upd HB dx2 (.own b2)) b2 (.ins cB dx2 [])) := (Ex.new ndx2).trans (Ex.new (by rw [upd_ne ne2.symm]; exact nb2))
    refine ⟨b2, dx2, tp, [.ref y], rfl, upd_same, .inl (sq_of (eb2 _ _ htp)), (by show 1 ≤ 1000; decide), .inl ⟨[.jar 40 1], ⟨[y], rfl, .cons (hy.mono eb2) .nil, (by show 1 ≤ 4; decide)⟩, fun lb2 lr2 HC keep2 nlb2 nlr2 BC => ⟨rfl, ?_⟩⟩⟩
    have eBC : Ex HB HC := fun x o hx => keep2 x o (fun z => by rw [z, nb2] at hx; cases hx) (eb2 _ _ hx)
    have B1C := B1.mono (e2B.trans eBC)
    have hTC := hT2.ext (e2B.trans eBC)
    have n12 : b1 ≠ b2 := fun z => by
      obtain ⟨d, h⟩ := (B1.mono e2B).ob
      rw [z, nb2] at h
      cases h
    have bo2 : Bd.ok (.jar 40 1) := ⟨by decide, by decide, by decide, by decide⟩
    have bok2 : ∀ bd ∈ ([.jar 40 1] : List Bd), bd.ok := fun bd hb => by
      rw [List.mem_singleton.mp hb]
      exact bo2
    refine q_forR1 (D := { nx := _, rt := Q }) (n := 40) (ea_cons ev_c ea_nil) (by decide) (fun i σ' H' => ∃ (lr1 lr2 : Addr) (rs1 rs2 : VS) (o3 : Option V), σ' = [some (.int t), some (.ref b1), some (.ref b2), o3] ∧ BookAt cJ cW cB b1 lb1 lr1 [] rs1 H' ∧ BookAt cJ cW cB b2 lb2 lr2 [.jar 40 1] rs2 H' ∧ NdefX.TabsN Tb H' ∧ R40 t 5 i rs1 ∧ R40 t 1 i rs2)
      (fun HD eD => ⟨lr1, lr2, [], [], none, rfl, B1C.mono eD, BC.mono eD, hTC.ext eD, R40.nil t 5, R40.nil t 1⟩) (fun i σ HD hi ⟨lr1, lr2, rs1, rs2, o3, hσ, Ba, Bb, tD, r1, r2⟩ => ?_) fun σ HD ⟨lr1, lr2, rs1, rs2, o3, hσ, Ba, Bb, tD, r1, r2⟩ => ?_
    · subst hσ
      have hi40 : i < 40 := by omega
      refine put_two (t := t) (c := 5) Ba Bb n12.symm (fun bd hb => (by cases hb)) (by decide) r1.ok r1.im (by rw [r1.len]; exact hi40) (fun bd hb => (by cases hb)) tD (ev_var rfl) (ea_cons (ev_var rfl) (ea_cons ev_c ea_nil)) (by decide) (by decide) t0 t1 fun HE lra Ba Bb tE => ?_
      refine put_two (t := t) (c := 1) Bb Ba n12 bok2 (by decide) r2.ok r2.im (by rw [r2.len]; exact hi40) (fun bd hb => (by rw [List.mem_singleton.mp hb]; exact (r2.ins (by decide) t0 t1).keeps (by omega))) tE (ev_var rfl) (ea_cons (ev_var rfl) (ea_cons ev_c ea_nil)) (by decide) (by decide) t0 t1 fun HF lrb Bb Ba tF => ?_
      exact ⟨lra, lrb, _, _, _, rfl, Ba, Bb, tF, r1.ins (by decide) t0 t1, r2.ins (by decide) t0 t1⟩
    · subst hσ
      have r2 : R40 t 1 40 rs2 := r2
      have r1 : R40 t 5 40 rs1 := r1
      refine ret_go (andv_go ?_)
      refine eqE_go (t := t) (c := 9) (e := t) Ba (fun bd hb => (by cases hb)) (by decide) r1.ok (fun bd hb => (by cases hb)) (by rw [r1.len]; decide) tD t0 t1 (by decide) (by decide) ⟨Int.le_refl _, fun bd hb => (by cases hb), fun u a b => by omega⟩ (ev_var rfl) (ea_cons (ev_var rfl) (ea_cons ev_c ea_nil)) (fun H2 => ev_var rfl) fun HE eE tE => ⟨true, rfl, ?_⟩
      refine eqE_go (t := t) (c := 3) (e := t + 3) (Bb.exN eE) bok2 (by decide) r2.ok (fun bd hb => (by rw [List.mem_singleton.mp hb]; exact r2.keeps (by decide))) (by rw [r2.len]; decide) tE t0 t1 (by decide) (by decide) r2.early (ev_var rfl) (ea_cons (ev_var rfl) (ea_cons ev_c ea_nil)) (fun H2 => ev_op (ev_var rfl) ev_c rv_I0) fun HF _ _ => q HF
end
/-! how the law stands -/
structure S10 (cJ cW cB : Addr) (Tb : List NdefX.NTab) (Hs : Hp) (small : Bool) (b lb lr lbp lv : Addr) (ts : List Addr) (bds : List Bd) (rs : VS) (H : Hp) : Prop where
  e : LamX.ExtN Hs H
  fb : Hs b = none
  flb : Hs lb = none
  flr : ∀ u, Hs lr = some u → (∀ ps, u ≠ .tbl ps) → False
  B : BookAt cJ cW cB b lb lr bds rs H
  wf : B10 bds rs
  hlb : H lbp = some (.lst (ts.map V.ref))
  ht : Tups H ts bds
  hP : PairsT H lv rs
  t : NdefX.TabsN Tb H
  n1 : lbp ≠ lb ∧ lbp ≠ lr
  n2 : lv ≠ lb ∧ lv ≠ lr
  pos : 0 < bds.length
  sm : small = true → ∀ bd ∈ bds, SmallB bd
theorem vok_tail {q : Int × Int} {rs : VS} (h : VOk (q :: rs)) : VOk rs := ⟨fun i hi => by
  have z := h.cost (i + 1) (by rw [List.length_cons]; omega)
  rwa [List.getD_cons_succ] at z, fun i j h1 h2 => by
  have z := h.rise (i + 1) (j + 1) (by omega) (by rw [List.length_cons]; omega)
  rwa [List.getD_cons_succ, List.getD_cons_succ] at z⟩
theorem b10_tail {bds : List Bd} {q : Int × Int} {rs : VS} (h : B10 bds (q :: rs)) : B10 bds rs := ⟨h.bok, h.h4, vok_tail h.ok, fun x hx => h.im x (List.mem_cons_of_mem _ hx), by have := h.hn; rw [List.length_cons] at this; omega, fun x hx => h.ic x (List.mem_cons_of_mem _ hx), fun bd hb a b r hab hr => by
  have z := h.kp bd hb a b r hab hr
  have y := (h.ic q List.mem_cons_self).1
  rw [sumM] at z
  split at z <;> omega⟩
theorem b10_ins {bds : List Bd} {rs : VS} {t c : Int} (h : B10 bds rs) (hn : rs.length < 10) (t0 : 0 ≤ t) (t1 : t ≤ 1000000000000) (c0 : 1 ≤ c) (c1 : c ≤ 1000000000) (hf : fstB bds (insB rs t c) 0 = none) : B10 bds (insB rs t c) := by
  have ok := ins_ok (t := t) h.ok c0
  refine ⟨h.bok, h.h4, ok, fun q hq => ?_, by rw [ins_len]; omega, fun q hq => ?_, fun bd hb => (keeps_iff ok (h.bok bd hb)).mp (fst_all hf bd hb)⟩
  · rcases ins_mem hq with z | z
    · exact h.im q z
    · rw [z]
      exact ⟨t0, t1⟩
  · rcases ins_mem hq with z | z
    · exact h.ic q z
    · rw [z]
      exact ⟨c0, c1⟩
section
variable {cJ cW cB : Addr} {Tb : List NdefX.NTab} {Hs H H' : Hp} {small : Bool} {b lb lr lbp lv : Addr} {ts : List Addr} {bds : List Bd} {rs : VS}
theorem S10.exN (h : S10 cJ cW cB Tb Hs small b lb lr lbp lv ts bds rs H) (e : LamX.ExtN H H') (t : NdefX.TabsN Tb H') : S10 cJ cW cB Tb Hs small b lb lr lbp lv ts bds rs H' :=
  ⟨h.e.trans e, h.fb, h.flb, h.flr, h.B.exN e, h.wf, exN_lst e h.hlb, paired_imp h.ht fun _ _ z => e _ _ z fun _ w => (by cases w), exN_pairs e h.hP, t, h.n1, h.n2, h.pos, h.sm⟩
theorem S10.mono (h : S10 cJ cW cB Tb Hs small b lb lr lbp lv ts bds rs H) (e : Ex H H') : S10 cJ cW cB Tb Hs small b lb lr lbp lv ts bds rs H' := h.exN (Ex.extN e) (h.t.ext e)
theorem S10.alive (h : S10 cJ cW cB Tb Hs small b lb lr lbp lv ts bds rs H) {l : Addr} (n : H l = none) : l ≠ lb ∧ l ≠ lr := by
  obtain ⟨ys, h1, _⟩ := h.B.bs
  obtain ⟨ps, h2, _⟩ := h.B.rows
  exact ⟨fun z => (by rw [z, h1] at n; cases n), fun z => (by rw [z, h2] at n; cases n)⟩
/-- the first visit dropped -/
theorem S10.drop {q : Int × Int} {H2 H3 : Hp} {lv2 : Addr} (h : S10 cJ cW cB Tb Hs small b lb lr lbp lv ts bds (q :: rs) H) (keep : ∀ a o, a ≠ lr → H a = some o → H2 a = some o) (B2 : BookAt cJ cW cB b lb lr bds rs H2) (e : Ex H2 H3) (hP : PairsT H3 lv2 rs) (hn : H2 lv2 = none) : S10 cJ cW cB Tb Hs small b lb lr lbp lv2 ts bds rs H3 := by
  obtain ⟨pr, hpr, _⟩ := h.B.rows
  have t2 : NdefX.TabsN Tb H2 := tabs_keep h.t fun a o ha n1 _ => keep a o (fun z => by rw [z, hpr] at ha; cases ha; exact n1 _ rfl) ha
  obtain ⟨ys, h1, _⟩ := B2.bs
  obtain ⟨ps, h2, _⟩ := B2.rows
  exact ⟨fun x o hx no => e _ _ (keep x o (fun z => h.flr o (by rw [← z]; exact hx) no) (h.e x o hx no)), h.fb, h.flb, h.flr, B2.mono e, b10_tail h.wf, e _ _ (keep _ _ h.n1.2 h.hlb), paired_imp h.ht fun _ _ z => e _ _ (keep _ _ (fun w => by rw [w, hpr] at z; cases z) z), hP, t2.ext e, h.n1, ⟨fun z => (by rw [z, h1] at hn; cases hn), fun z => (by rw [z, h2] at hn; cases hn)⟩, h.pos, h.sm⟩
/-- a visit put -/
theorem S10.put {t c : Int} {H2 H3 : Hp} {lr' lv2 : Addr} (h : S10 cJ cW cB Tb Hs small b lb lr lbp lv ts bds rs H) (hl : rs.length < 10) (t0 : 0 ≤ t) (t1 : t ≤ 1000000000000) (c0 : 1 ≤ c) (c1 : c ≤ 1000000000) (hf : fstB bds (insB rs t c) 0 = none) (nl : H lr' = none) (keep : ∀ a o, a ≠ b → H a = some o → (∀ ps, o ≠ .tbl ps) → H2 a = some o) (t2 : NdefX.TabsN Tb H2) (B2 : BookAt cJ cW cB b lb lr' bds (insB rs t c) H2) (e : Ex H2 H3) (hP : PairsT H3 lv2 (insB rs t c)) (hn : H2 lv2 = none) : S10 cJ cW cB Tb Hs small b lb lr' lbp lv2 ts bds (insB rs t c) H3 := by
  obtain ⟨db, hob⟩ := h.B.ob
  obtain ⟨ys, h1, _⟩ := B2.bs
  obtain ⟨ps, h2, _⟩ := B2.rows
  refine ⟨fun x o hx no => e _ _ (keep x o (fun z => by rw [z, h.fb] at hx; cases hx) (h.e x o hx no) no), h.fb, h.flb, fun u hu no => ?_, B2.mono e, b10_ins h.wf hl t0 t1 c0 c1 hf, e _ _ (keep _ _ (ne_of h.hlb hob (by intro h; cases h)) h.hlb fun _ z => by cases z), paired_imp h.ht fun _ _ z => e _ _ (keep _ _ (ne_of z hob (by intro h; cases h)) z fun _ w => by cases w), hP, t2.ext e, ⟨h.n1.1, ne_of_none h.hlb nl⟩, ⟨fun z => (by rw [z, h1] at hn; cases hn), fun z => (by rw [z, h2] at hn; cases hn)⟩, h.pos, h.sm⟩
  have z := h.e _ _ hu no
  rw [nl] at z
  cases z
theorem S10.pairs_put {H2 : Hp} (h : S10 cJ cW cB Tb Hs small b lb lr lbp lv ts bds rs H) (keep : ∀ a o, a ≠ b → H a = some o → (∀ ps, o ≠ .tbl ps) → H2 a = some o) : PairsT H2 lv rs := by
  obtain ⟨db, hob⟩ := h.B.ob
  obtain ⟨ps, h1, h2⟩ := h.hP
  exact ⟨ps, keep _ _ (ne_of h1 hob (by intro h; cases h)) h1 fun _ z => (by cases z), paired_imp h2 fun _ _ z => keep _ _ (ne_of z hob (by intro h; cases h)) z fun _ w => (by cases w)⟩
/-- a bound changed -/
theorem S10.chg {sc : Int} {l : Addr} {ts' : List Addr} {bds' : List Bd} {H2 : Hp} (h : S10 cJ cW cB Tb Hs small b lb lr lbp lv ts bds rs H) (z : Chg10 cJ cW cB Tb H b lb lr bds rs sc l ts' bds' H2) (hs : small = true → sc = 0) : S10 cJ cW cB Tb Hs small b lb lr l lv ts' bds' rs H2 := by
  obtain ⟨yb, hyb, _⟩ := h.B.bs
  obtain ⟨ps, h1, h2⟩ := h.hP
  exact ⟨fun x o hx no => z.keep x o (fun w => by rw [w, h.flb] at hx; cases hx) (h.e x o hx no) no, h.fb, h.flb, h.flr, z.B, z.wf, z.hl, z.ht, ⟨ps, z.keep _ _ h.n2.1 h1 fun _ w => (by cases w), paired_imp h2 fun _ _ y => z.keep _ _ (ne_of y hyb (by intro h; cases h)) y fun _ w => (by cases w)⟩, z.t, z.n, h.n2, by rw [z.len]; exact h.pos, fun s => z.sm (hs s) (h.sm s)⟩
end
/-! the law's body -/
theorem s_asgM {te : TE} {i : Nat} {D : Ends} {σ : L2.St} {H : Hp} (h : te σ H fun v H1 => D.nx (σ.set i (some v)) H1) : tAsg te (gName i) D σ H := h
theorem ifB_go {te : TE} {a b : TS} {D : Ends} {σ : L2.St} {H : Hp} (h : te σ H fun x H1 => ∃ c, x = .bl c ∧ if c = true then a D σ H1 else b D σ H1) : tIfS (tB te) a b D σ H := h
theorem q_ifnB {te : TE} {a u : TS} {D : Ends} {σ : L2.St} {H : Hp} (h : te σ H fun x H1 => ∃ c, x = .bl c ∧ if (!c) = true then a { D with nx := u D } σ H1 else u D σ H1) : tSeq (tIfS (tNot (tB te)) a tNext) u D σ H := h
theorem ev_pick {K : PySem.W.Frag} {ta tb te : TE} {σ : L2.St} {H : Hp} {x y : Int} {b : Bool} (ha : Ev ta σ H (.int x)) (hb : Ev tb σ H (.int y)) (hi : Ev te σ H (.bl b)) : Ev (tOp (rIxL K) (tLst (tCons ta (tCons tb tNil))) (tCB (fun xs H Q => (∃ i, xs = [.int i] ∧ Q (.int i) H) ∨ ∃ k, xs = [.bl k] ∧ Q (.int (if k = true then 1 else 0)) H) (tCons te tNil))) σ H (.int (if b = true then y else x)) :=
  ev_ixN (K := K) (ea_cons ha (ea_cons hb ea_nil)) (ev_intB hi) (show 2 ≤ 100000 by decide) (by cases b <;> rfl)
theorem rem_first (q : Int × Int) (rs : VS) : remI (q :: rs) q = rs := by
  show (q :: rs).eraseIdx (if q = q then 0 else fndI rs q + 1) = rs
  rw [if_pos rfl]
  rfl
def spLaw10 (T : List NdefX.NTab) (K : PySem.W.Frag) : Sp := fun vs H Q _ => ∃ (a : Addr) (ns : List Int), vs = [.ref a] ∧ SqL K H a (ns.map V.int) ∧ ns.length ≤ 63 ∧ NdefX.TabsN T H ∧ ∀ H', Q (.bl true) H'
theorem rCell {K : PySem.W.Frag} {H : Hp} {a : Addr} {ns : List Int} {k : Int} (hS : SqL K H a (ns.map V.int)) (hl : ns.length ≤ 63) (hk : 0 ≤ k) : ∀ H1, Ex H H1 → RCell K [.ref a, .int k] H1 (.int (cellV ns k)) := fun H1 e => ⟨a, ns, k, rfl, ex_l e hS, hl, hk, rfl⟩
/-- one of the law's bounds, as drawn -/
def bdD (ns : List Int) (small : Bool) (sca : Int) (i : Nat) : Bd := if small = true then boundV (cellV ns (1 + (i : Int))) sca else wideV (cellV ns (60 + (i : Int))) (boundV (cellV ns (1 + (i : Int))) sca)
section
variable {P : Program} {w : World} {K : PySem.W.Frag} {mg : Str → Option Value} {base : Heap} {cJ cW cB cG : Addr} {cs : Nat → Addr} {Tb : List NdefX.NTab}
theorem law_body {cdv : Value} {Ar : Around} {outer : List Env} {s : Shared} {Hs : Hp} {Q : VK} {E : XK} {ff : Addr} {a : Addr} {ns : List Int} (T : Blt mg) (hr : Room 8 (Ar.deeper (envOfC "law" (C8.fnScope s_law) s.heap.objs.size ff cdv)))
    (c_Lcell : C8.Cal P w K mg base 1 "_law_cell" (spF (RCell K)) []) (c_Lscale : C8.Cal P w K mg base 1 "_law_scale" (spF (R1 (fun c => 0 ≤ c) scaleV)) []) (c_Lbound : C8.Cal P w K mg base 1 "_law_bound" (spW RBound) []) (c_Lwide : C8.Cal P w K mg base 1 "_law_wide" (spW RWide) []) (c_Lmade : C8.Cal P w K mg base 4 "_law_made" (spW (RMade cJ cW)) [])
    (c_Lcost : C8.Cal P w K mg base 1 "_law_cost" (spF (R2' (fun c sc => 0 ≤ c ∧ 1 ≤ sc ∧ sc ≤ 40000000) costV)) []) (m_Book : MakX P w K mg base 3 "Book" cB (spBInit K cJ cW cB (cs 0)) ["self", "bounds"]) (t_Book_visits : C8.Met P w K mg base 1 cB "visits" (spW (RVis cJ cW cB)) []) (t_Book_drop : MetX P w K mg base 3 cB "drop" (spDrop K cJ cW cB cs)) (t_Book_earliest : MetX P w K mg base 6 cB "earliest" (spEarly K cJ cW cB cs Tb))
    (c_Lput : C8.Cal P w K mg base 7 "_law_put" (spPut10 cJ cW cB Tb) []) (c_Lwith : C8.Cal P w K mg base 1 "_law_with" (spW RRow) []) (c_Lchanged : C8.Cal P w K mg base 7 "_law_changed" (spChg10 cJ cW cB Tb) []) (c_Lasked : C8.Cal P w K mg base 7 "_law_asked" (spAsk10 cJ cW cB Tb) []) (c_Lone_by_one : C8.Cal P w K mg base 4 "_law_one_by_one" (spF ROne10) []) (c_Lends : C8.Cal P w K mg base 7 "_law_ends" (spEnds10 Tb) [])
    (hS : SqL K Hs a (ns.map V.int)) (hl : ns.length ≤ 63) (hT : NdefX.TabsN Tb Hs) (q : ∀ H', Q (.bl true) H') :
    ∃ t, PSs (cxOf C8.CX0 P w K mg base ["_law_script", "_law_small", "_law_scale_here", "_law_k", "_law_bounds", "_law_book", "_law_begin", "_law_visits", "_law_cell_here", "_law_moment", "_law_cost_here", "_law_more", "_law_at", "_law_found", "_law_bound_here"] "law" (C8.fnScope s_law) ff cdv Ar outer s Hs E).nox (C8.fnBody s_law) t ∧ t { nx := fun _ H' => Q .non H', rt := Q } (start ["_law_script", "_law_small", "_law_scale_here", "_law_k", "_law_bounds", "_law_book", "_law_begin", "_law_visits", "_law_cell_here", "_law_moment", "_law_cost_here", "_law_more", "_law_at", "_law_found", "_law_bound_here"] [.ref a]) Hs := by
  refine ⟨_, (pss_cons (ps_set (i := 1) sc_law.nd rfl (Or.inl rfl) (pe_cmpR op_eq (pe_op op_mod (C8.pe_c c_Lcell hr (by decide) rfl (pa_cons (pv 0) (pa_cons pe_int pa_nil))) pe_int) pe_int (nomark _)))
  (pss_cons (ps_set (i := 2) sc_law.nd rfl (Or.inr rfl) (pe_ix ix_list (pe_lst (pa_cons (C8.pe_c c_Lscale hr (by decide) rfl (pa_cons (C8.pe_c c_Lcell hr (by decide) rfl (pa_cons (pv 0) (pa_cons pe_int pa_nil))) pa_nil)) (pa_cons pe_int pa_nil))) (pe_callTy call_int1 (by rfl) T.b_int boot_int (pa_cons (pv 1) pa_nil)) (fun _ _ => rfl)))
  (pss_cons (ps_set (i := 4) sc_law.nd rfl (Or.inr rfl) (pe_lc (own := [("_law_k", 3)]) (g := gName 3) rfl sc_law.nd (pi_range1 rfl T.b_range (pa_cons (pe_op op_add pe_int (pe_op op_mod (C8.pe_c c_Lcell hr (by decide) rfl (pa_cons (pv 0) (pa_cons pe_int pa_nil))) pe_int)) pa_nil)) (blkOk_by (own := [("_law_k", 3)]) (N := ["_law_script", "_law_small", "_law_scale_here", "_law_k", "_law_bounds", "_law_book", "_law_begin", "_law_visits", "_law_cell_here", "_law_moment", "_law_cost_here", "_law_more", "_law_at", "_law_found", "_law_bound_here"]) (sc := C8.fnScope s_law) (by decide +kernel)) (fun _ _ _ _ _ => pg_name (i := 3) sc_law.nd rfl (Or.inl rfl)) (fun _ _ _ _ _ => pts_nil) (fun _ _ _ _ _ => (C8.pe_c c_Lbound hr (by decide) rfl (pa_cons (C8.pe_c c_Lcell hr (by decide) rfl (pa_cons (pv 0) (pa_cons (pe_op op_add pe_int (pv 3)) pa_nil))) (pa_cons (pv 2) pa_nil))))))
  (pss_cons (ps_if (pt_not (pt_val (pv 1)))
    (pss_one (ps_set (i := 4) sc_law.nd rfl (Or.inr rfl) (pe_lc (own := [("_law_k", 3)]) (g := gName 3) rfl sc_law.nd (pi_range1 rfl T.b_range (pa_cons (pe_callB call_len_seq (by rfl) T.b_len boot_len (pa_cons (pv 4) pa_nil)) pa_nil)) (blkOk_by (own := [("_law_k", 3)]) (N := ["_law_script", "_law_small", "_law_scale_here", "_law_k", "_law_bounds", "_law_book", "_law_begin", "_law_visits", "_law_cell_here", "_law_moment", "_law_cost_here", "_law_more", "_law_at", "_law_found", "_law_bound_here"]) (sc := C8.fnScope s_law) (by decide +kernel)) (fun _ _ _ _ _ => pg_name (i := 3) sc_law.nd rfl (Or.inl rfl)) (fun _ _ _ _ _ => pts_nil) (fun _ _ _ _ _ => (C8.pe_c c_Lwide hr (by decide) rfl (pa_cons (pe_ix (show IxR _ (rIxL K) from ix_list) (pv 4) (pv 3) (fun _ _ => rfl)) (pa_cons (C8.pe_c c_Lcell hr (by decide) rfl (pa_cons (pv 0) (pa_cons (pe_op op_add pe_int (pv 3)) pa_nil))) pa_nil)))))))
    pss_nil)
  (pss_cons (ps_set (i := 5) sc_law.nd rfl (Or.inl rfl) (pe_mkX9 m_Book passF hr (by decide) rfl (pa_cons (pe_lc (own := [("_law_bound_here", 14)]) (g := gName 14) rfl sc_law.nd (pi_list (pv 4)) (blkOk_by (own := [("_law_bound_here", 14)]) (N := ["_law_script", "_law_small", "_law_scale_here", "_law_k", "_law_bounds", "_law_book", "_law_begin", "_law_visits", "_law_cell_here", "_law_moment", "_law_cost_here", "_law_more", "_law_at", "_law_found", "_law_bound_here"]) (sc := C8.fnScope s_law) (by decide +kernel)) (fun _ _ _ _ _ => pg_name (i := 14) sc_law.nd rfl (Or.inl rfl)) (fun _ _ _ _ _ => pts_nil) (fun _ _ _ _ _ => (C8.pe_c c_Lmade hr (by decide) rfl (pa_cons (pv 14) pa_nil)))) pa_nil)))
  (pss_cons (ps_set (i := 6) sc_law.nd rfl (Or.inl rfl) (pe_ix ix_list (pe_lst (pa_cons pe_int (pa_cons (pe_op op_sub (pe_op op_pow pe_int pe_int) pe_int) (pa_cons (C8.pe_c c_Lcell hr (by decide) rfl (pa_cons (pv 0) (pa_cons pe_int pa_nil))) pa_nil)))) (pe_op op_mod (C8.pe_c c_Lcell hr (by decide) rfl (pa_cons (pv 0) (pa_cons pe_int pa_nil))) pe_int) (fun _ _ => rfl)))
  (pss_cons (ps_set (i := 7) sc_law.nd rfl (Or.inl rfl) (pe_lst pa_nil))
  (pss_cons (ps_for PassesOwn.never rfl (pi_range1 rfl T.b_range (pa_cons (pe_callB call_len_seq (by rfl) T.b_len boot_len (pa_cons (pv 0) pa_nil)) pa_nil)) (pg_name (i := 3) sc_law.nd rfl (Or.inl rfl))
    (pss_cons (ps_set (i := 8) sc_law.nd rfl (Or.inl rfl) (C8.pe_c c_Lcell hr (by decide) rfl (pa_cons (pv 0) (pa_cons (pe_op op_add pe_int (pe_op op_mul pe_int (pv 3))) pa_nil))))
    (pss_cons (ps_set (i := 9) sc_law.nd rfl (Or.inl rfl) (pe_op op_add (pv 6) (pe_op op_mod (pe_op op_fdiv (pv 8) pe_int) pe_int)))
    (pss_cons (ps_set (i := 10) sc_law.nd rfl (Or.inl rfl) (pe_ix ix_list (pe_lst (pa_cons (C8.pe_c c_Lcost hr (by decide) rfl (pa_cons (pe_op op_fdiv (pv 8) pe_int) (pa_cons (pv 2) pa_nil))) (pa_cons (pe_op op_add pe_int (pe_op op_mod (pe_op op_fdiv (pv 8) pe_int) pe_int)) pa_nil))) (pe_callTy call_int1 (by rfl) T.b_int boot_int (pa_cons (pv 1) pa_nil)) (fun _ _ => rfl)))
    (pss_cons (ps_if (pt_cmpR op_eq (pe_callB call_len_seq (by rfl) T.b_len boot_len (pa_cons (pv 7) pa_nil)) pe_int (nomark _))
      (pss_cons (ps_expr (pe_mX t_Book_drop passF hr (by decide) (pv 5) (pa_cons (pe_ix ix_tup (pe_ix ix_list (pv 7) pe_int (fun _ _ => rfl)) pe_int (fun _ _ => rfl)) (pa_cons (pe_ix ix_tup (pe_ix ix_list (pv 7) pe_int (fun _ _ => rfl)) pe_int (fun _ _ => rfl)) pa_nil))))
      (pss_one (ps_set (i := 7) sc_law.nd rfl (Or.inl rfl) (pe_slice sl_list (pv 7) (po_some pe_int) po_none))))
      pss_nil)
    (pss_cons (ps_if (pt_val (C8.pe_c c_Lput hr (by decide) rfl (pa_cons (pv 5) (pa_cons (pv 9) (pa_cons (pv 10) pa_nil)))))
      (pss_one (ps_set (i := 7) sc_law.nd rfl (Or.inl rfl) (C8.pe_c c_Lwith hr (by decide) rfl (pa_cons (pv 7) (pa_cons (pv 9) (pa_cons (pv 10) pa_nil))))))
      pss_nil)
    (pss_cons (ps_if (pt_cmpR op_eq (pe_op op_mod (pe_op op_fdiv (pv 8) pe_int) pe_int) pe_int (nomark _))
      (pss_one (ps_set (i := 4) sc_law.nd rfl (Or.inr rfl) (C8.pe_c c_Lchanged hr (by decide) rfl (pa_cons (pv 5) (pa_cons (pv 4) (pa_cons (pv 7) (pa_cons (C8.pe_c c_Lcell hr (by decide) rfl (pa_cons (pv 0) (pa_cons (pe_op op_add pe_int (pv 3)) pa_nil))) (pa_cons (pe_ix ix_list (pe_lst (pa_cons (pv 2) (pa_cons pe_int pa_nil))) (pe_callTy call_int1 (by rfl) T.b_int boot_int (pa_cons (pv 1) pa_nil)) (fun _ _ => rfl)) pa_nil))))))))
      pss_nil)
    (pss_one (ps_if (PW.pt (pw_and (pt_cmpR op_eq (pe_op op_mod (pv 3) pe_int) pe_int (nomark _)) (pw_and1 (pt_cmpR op_lt (pv 3) pe_int (nomark _)))))
      (pss_cons (ps_set (i := 11) sc_law.nd rfl (Or.inl rfl) (C8.pe_c c_Lcell hr (by decide) rfl (pa_cons (pv 0) (pa_cons (pe_op op_add pe_int (pe_op op_mul pe_int (pv 3))) pa_nil))))
      (pss_cons (ps_set (i := 10) sc_law.nd rfl (Or.inl rfl) (pe_ix ix_list (pe_lst (pa_cons (C8.pe_c c_Lcost hr (by decide) rfl (pa_cons (pe_op op_fdiv (pv 11) pe_int) (pa_cons (pv 2) pa_nil))) (pa_cons (pe_op op_add pe_int (pe_op op_mod (pe_op op_fdiv (pv 11) pe_int) pe_int)) pa_nil))) (pe_callTy call_int1 (by rfl) T.b_int boot_int (pa_cons (pv 1) pa_nil)) (fun _ _ => rfl)))
      (pss_cons (ps_set (i := 12) sc_law.nd rfl (Or.inl rfl) (pe_op op_add (pv 6) (pe_op op_mod (pv 11) pe_int)))
      (pss_cons (ps_if (pt_not (pt_val (C8.pe_c c_Lasked hr (by decide) rfl (pa_cons (pv 5) (pa_cons (pv 4) (pa_cons (pv 7) (pa_cons (pv 12) (pa_cons (pv 10) pa_nil))))))))
        (pss_one (ps_ret pe_bl))
        pss_nil)
      (pss_cons (ps_set (i := 13) sc_law.nd rfl (Or.inl rfl) (pe_mX t_Book_earliest passF hr (by decide) (pv 5) (pa_cons (pv 12) (pa_cons (pv 10) pa_nil))))
      (pss_one (ps_if (PW.pt (pw_and (pt_val (pv 1)) (pw_and1 (pt_cmpR op_ne (pv 13) (C8.pe_c c_Lone_by_one hr (by decide) rfl (pa_cons (pv 4) (pa_cons (pv 7) (pa_cons (pv 12) (pa_cons (pv 10) pa_nil))))) (nomark _)))))
        (pss_one (ps_ret pe_bl))
        pss_nil)))))))
      pss_nil)))))))))
  (pss_one (ps_ret (pe_and (pe_cmpR (op_eqD hr.units) (C8.pe_mt0 t_Book_visits hr (by decide) (pv 5)) (pv 7) (nomark _)) (pe_one (C8.pe_c c_Lends hr (by decide) rfl (pa_cons (pv 6) pa_nil)))))))))))))), ?_⟩
  have cellAt : ∀ {σ : L2.St} {H : Hp} {te : TE} {i : Int}, σ[0]? = some (some (.ref a)) → SqL K H a (ns.map V.int) → Ev te σ H (.int i) → 0 ≤ i → Ev (tCall (spF (RCell K)) [] C8.E0 (tCons (tVar 0) (tCons te tNil))) σ H (.int (cellV ns i)) := fun h0 hS he hi => ev_callF (ea_cons (ev_var h0) (ea_cons he ea_nil)) (rCell hS hl hi)
  refine q_asg (v := .bl (decide (V.int (cellV ns 0 % 2) = V.int 0))) (ev_op (ev_op (cellAt rfl hS ev_c (by decide)) ev_c (rv_I (by decide))) ev_c (rv_eq rfl)) fun H1 e1 => ?_
  have hS1 := ex_l e1 hS
  generalize decide (V.int (cellV ns 0 % 2) = V.int 0) = small
  have s8 := scale_in (cellV ns 8)
  refine q_asg (v := .int (if small = true then 1 else scaleV (cellV ns 8))) (ev_pick (ev_callF (ea_cons (cellAt rfl hS1 ev_c (by decide)) ea_nil) fun H2 e2 => ⟨_, rfl, cellV_nn ns 8, rfl⟩) ev_c (ev_var rfl)) fun H2 e2 => ?_
  have sc : 1 ≤ (if small = true then (1 : Int) else scaleV (cellV ns 8)) ∧ (if small = true then (1 : Int) else scaleV (cellV ns 8)) ≤ 40000000 := by split <;> omega
  generalize (if small = true then (1 : Int) else scaleV (cellV ns 8)) = sca at sc
  have e12 := e1.trans e2
  have hS2 := ex_l e12 hS
  have n5 : 1 ≤ 1 + cellV ns 5 % 4 ∧ 1 + cellV ns 5 % 4 ≤ 4 := by omega
  -- the bounds' tuples
  refine EvW.go (evw_lcP (TupP fun i => boundV (cellV ns (1 + (i : Int))) sca) TupP.mono TupP.nol (ei_r1 (n := 1 + cellV ns 5 % 4) (ea_cons (ev_op ev_c (ev_op (cellAt rfl hS2 ev_c (by decide)) ev_c (rv_I (by decide))) rv_I0) ea_nil) (by omega) (by omega)) (by omega) (fun x => rfl) (fun i H3 e3 hi => ?_)) fun v H3 e3 ⟨l4, xs4, ev, hl4, hxl, hP4⟩ => ?_
  · rw [Int.zero_add]
    exact evw_callW (ea_cons (cellAt (i := 1 + (i : Int)) rfl (ex_l e3 hS2) (ev_op (z := .int (1 + (i : Int))) ev_c (ev_var (i := 3) (v := .int (i : Int)) rfl) rv_I0) (by omega)) (ea_cons (ev_var (i := 2) (v := .int sca) rfl) ea_nil)) fun H4 e4 => ⟨_, sca, rfl, cellV_nn ns _, sc.1, sc.2, rfl⟩
  subst ev
  obtain ⟨ts4, rfl, hB4⟩ := tups_of hxl hP4
  rw [List.length_map] at hxl
  have e13 := e12.trans e3
  have hS3 := ex_l e13 hS
  obtain ⟨n, hn⟩ : ∃ n : Nat, n = (1 + cellV ns 5 % 4).toNat := ⟨_, rfl⟩
  rw [← hn] at hxl hB4
  have n14 : 1 ≤ n ∧ n ≤ 4 := by omega
  clear hP4
  -- wider ones
  dsimp only [gName]
  refine q_mid (fun σ' H' => ∃ (l : Addr) (ts : List Addr) (o3 : Option V), σ' = [some (.ref a), some (.bl small), some (.int sca), o3, some (.ref l), none, none, none, none, none, none, none, none, none, none] ∧ Ex Hs H' ∧ H' l = some (.lst (ts.map V.ref)) ∧ Tups H' ts ((List.range n).map (bdD ns small sca))) (fun σ' H4 hM => ?_) fun kM => ?_
  rotate_left
  · cases hsm : small with
    | true =>
      refine s_when (D := { nx := _, rt := Q }) (b := false) (et_not (a := true) (et_B (ev_var rfl))) (fun z => by cases z) fun _ H4 e4 => kM _ _ ⟨l4, ts4, none, by rw [hsm]; rfl, e13.trans e4, e4 _ _ hl4, ?_⟩
      have eq : (List.range n).map (bdD ns small sca) = (List.range n).map fun i : Nat => boundV (cellV ns (1 + (i : Int))) sca := List.map_congr_left fun i _ => by unfold bdD; rw [hsm, if_pos rfl]
      rw [eq]
      exact hB4.mono e4
    | false =>
      refine s_when (D := { nx := _, rt := Q }) (b := true) (et_not (a := false) (et_B (ev_var rfl))) (fun _ H4 e4 => ?_) fun z => by cases z
      have hS4 := ex_l (e13.trans e4) hS
      have hl44 := e4 _ _ hl4
      have hB44 := hB4.mono e4
      refine (evw_lcP (TupP (bdD ns small sca)) TupP.mono TupP.nol (ei_r1 (n := (n : Int)) (ea_cons (ev_is (ev_lenL (K := K) (ev_var (v := .ref l4) rfl) (sq_of hl44)) (by rw [List.length_map, hxl])) ea_nil) (by omega) (by omega)) (by omega) (fun x => rfl) (fun i H5 e5 hi => ?_) : EvW _ _ H4 _) H4 (Ex.refl _) _ fun v H5 e5 ⟨l5, xs5, ev, hl5, hxl5, hP5⟩ => ?_
      · rw [Int.toNat_natCast] at hi
        rw [Int.zero_add]
        have hti : ts4[i]? = some ts4[i] := List.getElem?_eq_getElem (by omega)
        obtain ⟨bd, hbd, hTt⟩ := paired_at hB44 hti
        have ebd : bd = boundV (cellV ns (1 + (i : Int))) sca := by
          rw [List.getElem?_map, List.getElem?_range (by omega)] at hbd
          injection hbd with hbd
          exact hbd.symm
        have eb : bdD ns small sca i = wideV (cellV ns (60 + (i : Int))) bd := by unfold bdD; rw [hsm, if_neg (by decide), ebd]
        refine EvW.imp (evw_callW (W := fun v H2 => ∃ p, v = .ref p ∧ H2 p = some (.tup (wideV (cellV ns (60 + (i : Int))) bd).tup)) (ea_cons (ev_ixL (K := K) (i := (i : Int)) (ev_var (i := 4) (v := .ref l4) rfl) (ev_var (i := 3) (v := .int (i : Int)) rfl) (sq_of (e5 _ _ hl44)) (atI_nat (by rw [List.getElem?_map, hti]; rfl))) (ea_cons (cellAt (i := 60 + (i : Int)) rfl (ex_l e5 hS4) (ev_op (z := .int (60 + (i : Int))) ev_c (ev_var (i := 3) (v := .int (i : Int)) rfl) rv_I0) (by omega)) ea_nil)) fun H6 e6 => ⟨ts4[i], bd, _, rfl, (e5.trans e6) _ _ hTt, cellV_nn ns _, rfl⟩) fun v H2 _ h => ?_
        show ∃ t, v = V.ref t ∧ H2 t = some (.tup (bdD ns small sca i).tup)
        rw [eb]
        exact h
      · subst ev
        obtain ⟨ts5, rfl, hB5⟩ := tups_of hxl5 hP5
        rw [Int.toNat_natCast] at hB5
        exact kM _ _ ⟨l5, ts5, none, by rw [hsm]; rfl, (e13.trans e4).trans e5, hl5, hB5⟩
  obtain ⟨l5, ts, o3, rfl, e04, hl5, hB⟩ := hM
  have hS4 := ex_l e04 hS
  have fine : ∀ i, Fine (bdD ns small sca i) := fun i => by
    unfold bdD
    split
    · exact bound_fine (cellV_nn ns _) sc.1 sc.2
    · exact wide_fine (bound_fine (cellV_nn ns _) sc.1 sc.2)
  have bok : ∀ b ∈ (List.range n).map (bdD ns small sca), b.ok := fun b hb => by
    obtain ⟨i, _, rfl⟩ := List.mem_map.mp hb
    exact (fine i).1
  have h4 : ((List.range n).map (bdD ns small sca)).length ≤ 4 ∧ 0 < ((List.range n).map (bdD ns small sca)).length := by
    rw [List.length_map, List.length_range]
    omega
  have sm : small = true → ∀ bd ∈ (List.range n).map (bdD ns small sca), SmallB bd := fun z b hb => by
    obtain ⟨i, _, rfl⟩ := List.mem_map.mp hb
    unfold bdD
    rw [if_pos z]
    exact bound_small _ _
  generalize (List.range n).map (bdD ns small sca) = bds at hB bok h4 sm
  clear hB4 hl4 hxl e1 e2 e3 e12 e13 hS1 hS2 hS3
  have tl := Paired.length hB
  -- the book
  refine q_make1 ?_
  refine ((evw_lcPF (BdP cJ cW fun i => bds.getD i (.jar 0 0)) BdP.mono BdP.nol (Ex.refl H4) (ei_l (K := K) .non (ev_var (v := .ref l5) rfl) (sq_of hl5)) (by rw [List.length_map, ← tl]; omega) (fun x => rfl) fun i H5 e5 hi => ?_) : EvW _ _ H4 _) H4 (Ex.refl _) _ fun v H5 e5 ⟨hd, xs4, ev, nhd, hhd, hxl4, hP4⟩ => ?_
  · rw [List.length_map] at hi
    have htp : ts[i]? = some ts[i] := List.getElem?_eq_getElem hi
    obtain ⟨bd, hbd, hTt⟩ := paired_at hB htp
    have item : (ts.map V.ref).getD i .non = .ref ts[i] := by
      rw [List.getD_eq_getElem?_getD, List.getElem?_map, htp]
      rfl
    rw [item]
    have eb : bds.getD i (.jar 0 0) = bd := by rw [List.getD_eq_getElem?_getD, hbd]; rfl
    refine EvW.imp (evw_callW (W := fun v H2 => ∃ y, v = .ref y ∧ BdAt cJ cW bd y H2) (ea_cons (ev_var rfl) ea_nil) (fun H5 e6 => ⟨ts[i], bd, rfl, (e5.trans e6) _ _ hTt, bok bd (List.mem_of_getElem? hbd), rfl⟩)) fun v H2 _ h => ?_
    show ∃ y, v = V.ref y ∧ BdAt cJ cW (bds.getD i (.jar 0 0)) y H2
    rw [eb]
    exact h
  subst ev
  rw [List.length_map, ← tl] at hxl4
  obtain ⟨ys, rfl, hY⟩ := bds_of hxl4 hP4
  have egd : (List.range bds.length).map (fun i => bds.getD i (.jar 0 0)) = bds := by
    apply List.ext_getElem
    · rw [List.length_map, List.length_range]
    · intro i h1 h2
      rw [List.getElem_map, List.getElem_range, List.getD_eq_getElem?_getD, List.getElem?_eq_getElem h2]
      rfl
  rw [egd] at hY
  clear hP4
  have hyl := Paired.length hY
  have e05 := e04.trans e5
  intro b dx nb ndx ne
  have eb : Ex H5 (upd (upd H5 dx (.own b)) b (.ins cB dx [])) := (Ex.new ndx).trans (Ex.new (by rw [upd_ne ne.symm]; exact nb))
  refine ⟨b, dx, hd, ys.map V.ref, rfl, upd_same, .inl (sq_of (eb _ _ hhd)), by rw [List.length_map, ← hyl]; omega, .inl ⟨bds, ⟨ys, rfl, paired_imp hY fun _ _ z => z.mono eb, h4.1⟩, fun lb lr H6 keep nlb nlr B6 => ⟨rfl, ?_⟩⟩⟩
  have e6 : Ex H5 H6 := fun x o hx => keep x o (fun z => by rw [z, nb] at hx; cases hx) (eb _ _ hx)
  have nlb5 : H5 lb = none := fresh_back eb nlb
  have nlr5 : H5 lr = none := fresh_back eb nlr
  have e06 := e05.trans e6
  have hS6 := ex_l e06 hS
  -- where it begins
  refine q_asg (v := .int (w3 (cellV ns 7) 3 (1000000000000 - 49) (cellV ns 6))) (ev_ix3 (c := cellV ns 7) ev_c (ev_op (ev_op (z := .int 1000000000000) ev_c ev_c (rv_I ⟨by decide, by decide, by decide⟩)) ev_c rv_I0) (cellAt rfl hS6 ev_c (by decide)) (ev_op (cellAt rfl hS6 ev_c (by decide)) ev_c (rv_I (by decide)))) fun H7 e7 => ?_
  have bg := w3_in (c := cellV ns 7) (a := 3) (b := 1000000000000 - 49) (d := cellV ns 6) (lo := 0) (hi := 999999999951) (by decide) (by decide) (by have := cellV_nn ns 6; have := cellV_lt ns 6; omega)
  generalize w3 (cellV ns 7) 3 (1000000000000 - 49) (cellV ns 6) = beg at bg
  refine q_asgL (el_lst ea_nil (by decide)) fun lv H8 nlv e8 hlv => ?_
  have e68 := e7.trans e8
  have e08 := e06.trans e68
  have st : S10 cJ cW cB Tb Hs small b lb lr l5 lv ts bds [] H8 := by
    have B7 := B6.mono e7
    obtain ⟨_, h1, _⟩ := B7.bs
    obtain ⟨_, h2, _⟩ := B7.rows
    have l55 := e5 _ _ hl5
    exact ⟨Ex.extN e08, fresh_back e05 nb, fresh_back e05 nlb5, fun u hu _ => (by rw [fresh_back e05 nlr5] at hu; cases hu), B6.mono e68, ⟨bok, h4.1, ⟨fun i h => absurd h (Nat.not_lt_zero _), fun i j _ h => absurd h (Nat.not_lt_zero _)⟩, fun q h => (by cases h), (by decide), fun q h => (by cases h), fun bd hb x y r hxy hr => (by
      have : sumM [] x y = 0 := rfl
      rw [this]
      have := (room_pos (bok bd hb) hxy hr).2
      omega)⟩, (e5.trans (e6.trans e68)) _ _ hl5, hB.mono (e5.trans (e6.trans e68)), ⟨[], hlv, .nil⟩, hT.ext e08, ⟨ne_of_none l55 nlb5, ne_of_none l55 nlr5⟩, ⟨fun z => (by rw [z, h1] at nlv; cases nlv), fun z => (by rw [z, h2] at nlv; cases nlv)⟩, h4.2, sm⟩
  clear hB hY hhd hl5 bok h4 sm tl hyl keep B6 hlv nlv nlb nlr nlb5 nlr5 eb
  -- the script
  refine q_forR1 (D := { nx := _, rt := Q }) (n := (ns.length : Int)) (ea_cons (ev_lenI (K := K) (ev_var rfl) (exN_l st.e hS)) ea_nil) (by omega) (fun i σ' H' => ∃ (lr lbp lv : Addr) (ts : List Addr) (bds : List Bd) (rs : VS) (o3 o8 o9 o10 o11 o12 o13 : Option V), σ' = [some (.ref a), some (.bl small), some (.int sca), o3, some (.ref lbp), some (.ref b), some (.int beg), some (.ref lv), o8, o9, o10, o11, o12, o13, none] ∧ S10 cJ cW cB Tb Hs small b lb lr lbp lv ts bds rs H')
    (fun H9 e9 => ⟨lr, l5, lv, ts, bds, [], o3, none, none, none, none, none, none, rfl, st.mono e9⟩) (fun i σ H9 hi ⟨lr, lbp, lv, ts, bds, rs, o3, o8, o9, o10, o11, o12, o13, hσ, st⟩ => ?_) fun σ H9 ⟨lr, lbp, lv, ts, bds, rs, o3, o8, o9, o10, o11, o12, o13, hσ, st⟩ => ?_
  · subst hσ
    have hS9 := exN_l st.e hS
    refine q_asg (D := { nx := _, rt := Q, bk := _, ct := _ }) (v := .int (cellV ns (100 + 2 * (i : Int)))) (cellAt (i := 100 + 2 * (i : Int)) rfl hS9 (ev_op ev_c (ev_op ev_c (ev_var rfl) (rv_I (.inl ⟨by decide, by decide⟩))) rv_I0) (by omega)) fun HA eA => ?_
    have c0 := cellV_nn ns (100 + 2 * (i : Int))
    generalize cellV ns (100 + 2 * (i : Int)) = c at c0
    refine q_asg (D := { nx := _, rt := Q, bk := _, ct := _ }) (v := .int (beg + c / 4 % 45)) (ev_op (ev_var (v := .int beg) rfl) (ev_op (ev_op (ev_var (v := .int c) rfl) ev_c (rv_I ⟨by decide, by decide⟩)) ev_c (rv_I (by decide))) rv_I0) fun HB eB => ?_
    have m0 : 0 ≤ beg + c / 4 % 45 ∧ beg + c / 4 % 45 ≤ 1000000000000 := by omega
    generalize beg + c / 4 % 45 = mo at m0
    have cd0 : 0 ≤ c / 180 := Int.ediv_nonneg c0 (by decide)
    have cin := cost_in cd0 sc.1 sc.2
    refine q_asg (D := { nx := _, rt := Q, bk := _, ct := _ }) (v := .int (if small = true then 1 + c / 180 % 7 else costV (c / 180) sca)) (ev_pick (ev_callF (ea_cons (ev_op (ev_var (v := .int c) rfl) ev_c (rv_I ⟨by decide, by decide⟩)) (ea_cons (ev_var (v := .int sca) rfl) ea_nil)) fun H2 e2 => ⟨_, _, rfl, ⟨cd0, sc.1, sc.2⟩, rfl⟩) (ev_op ev_c (ev_op (ev_op (ev_var (v := .int c) rfl) ev_c (rv_I ⟨by decide, by decide⟩)) ev_c (rv_I (by decide))) rv_I0) (ev_var rfl)) fun HC eC => ?_
    have k0 : 1 ≤ (if small = true then 1 + c / 180 % 7 else costV (c / 180) sca) ∧ (if small = true then 1 + c / 180 % 7 else costV (c / 180) sca) ≤ 1000000000 := by split <;> omega
    generalize (if small = true then 1 + c / 180 % 7 else costV (c / 180) sca) = co at k0
    have stC := st.mono ((eA.trans eB).trans eC)
    clear st hS9 eA eB eC
    -- the first one dropped
    try dsimp only
    refine q_mid (fun σ' H' => ∃ (lv : Addr) (rs : VS), σ' = [some (.ref a), some (.bl small), some (.int sca), some (.int (i : Int)), some (.ref lbp), some (.ref b), some (.int beg), some (.ref lv), some (.int c), some (.int mo), some (.int co), o11, o12, o13, none] ∧ S10 cJ cW cB Tb Hs small b lb lr lbp lv ts bds rs H' ∧ rs.length < 10) (fun σ' HD hM => ?_) fun kM => ?_
    rotate_left
    · have tst : EvT (tTest (tOp rEq (tCB (fun xs H Q => ∃ p ys, xs = [.ref p] ∧ (SqL K H p ys ∨ SqT K H p ys) ∧ Q (.int ys.length) H) (tCons (tVar 7) tNil)) (tC (.int 10)))) [some (.ref a), some (.bl small), some (.int sca), some (.int (i : Int)), some (.ref lbp), some (.ref b), some (.int beg), some (.ref lv), some (.int c), some (.int mo), some (.int co), o11, o12, o13, none] HC (decide (V.int (rs.length : Int) = V.int 10)) := et_test (ev_op (ev_lenP (ev_var rfl) stC.hP) ev_c (rv_eq rfl))
      refine s_when (D := { nx := _, rt := Q, bk := _, ct := _ }) tst (fun hz HD eD => ?_) fun hz HD eD => kM _ _ ⟨lv, rs, rfl, stC.mono eD, ?_⟩
      · have hz := of_decide_eq_true hz
        injection hz with hz
        have stD := stC.mono eD
        cases rs with
        | nil => exact absurd hz (by decide)
        | cons q0 rs =>
          obtain ⟨dx, hob⟩ := stD.B.ob
          have im := stD.wf.im q0 List.mem_cons_self
          have ic := stD.wf.ic q0 List.mem_cons_self
          refine tmeth_go (vs := [.int q0.1, .int q0.2]) (ev_var rfl) hob rfl (ea_cons (ev_pair0 (i := 0) (ev_var rfl) ev_c stD.hP (by decide) rfl) (ea_cons (ev_pair1 (i := 0) (ev_var rfl) ev_c stD.hP (by decide) rfl) ea_nil)) fun HE eE => ?_
          have stE := stD.mono eE
          refine ⟨b, lb, lr, bds, q0 :: rs, .int q0.1, .int q0.2, rfl, stE.B, by have := stE.wf.hn; omega, .inl ⟨_, rfl⟩, .inl ⟨_, rfl⟩, .inr ⟨q0.1, rfl, inR_t im.1 im.2, .inr ⟨q0.2, rfl, inR_t ic.1 ic.2, .inr ⟨List.mem_cons_self, fun HF keep BF => ?_⟩⟩⟩⟩
          rw [show ((q0.1, q0.2) : Int × Int) = q0 from rfl, rem_first] at BF
          obtain ⟨ps, hlv, hps⟩ := stE.hP
          obtain ⟨pr, hpr, _⟩ := stE.B.rows
          have hlvF := keep _ _ stE.n2.2 hlv
          have hpsF : Prs HF ps (q0 :: rs) := paired_imp hps fun _ _ z => keep _ _ (fun w => by rw [w, hpr] at z; cases z) z
          have sl : EvL (tSl (rSlL K) (tVar 7) (tPart (tC (.int 1))) tNoPart) [some (.ref a), some (.bl small), some (.int sca), some (.int (i : Int)), some (.ref lbp), some (.ref b), some (.int beg), some (.ref lv), some (.int c), some (.int mo), some (.int co), o11, o12, o13, none] HF ((ps.drop 1).map V.ref) := by
            have z := el_sl (K := K) (σ := [some (.ref a), some (.bl small), some (.int sca), some (.int (i : Int)), some (.ref lbp), some (.ref b), some (.int beg), some (.ref lv), some (.int c), some (.int mo), some (.int co), o11, o12, o13, none]) (H := HF) (lo := some ((1 : Nat) : Int)) (hi := none) (te := tVar 7) (tl := tPart (tC (.int 1))) (th := tNoPart) (ev_var rfl) (eo_some ev_c) eo_none (sq_of hlvF)
            rw [sl_drop _ _ (by rw [List.length_map, hps.len, List.length_cons]; omega), ← List.map_drop] at z
            exact z
          refine s_asgL (D := { nx := _, rt := Q, bk := _, ct := _ }) sl fun pl HG npl eG hpl => kM _ _ ⟨pl, rs, rfl, stE.drop keep BF eG ⟨ps.drop 1, hpl, ?_⟩ npl, ?_⟩
          · cases hpsF with
            | cons _ h => exact paired_imp h fun _ _ z => eG _ _ z
          · have := stE.wf.hn
            rw [List.length_cons] at this
            omega
      · have hz := of_decide_eq_false hz
        have h10 := stC.wf.hn
        exact Nat.lt_of_le_of_ne h10 fun z => hz (by rw [z]; rfl)
    obtain ⟨lv, rs, rfl, stD, hlt⟩ := hM
    clear stC
    -- one put
    refine q_mid (fun σ' H' => ∃ (lr lv : Addr) (rs : VS), σ' = [some (.ref a), some (.bl small), some (.int sca), some (.int (i : Int)), some (.ref lbp), some (.ref b), some (.int beg), some (.ref lv), some (.int c), some (.int mo), some (.int co), o11, o12, o13, none] ∧ S10 cJ cW cB Tb Hs small b lb lr lbp lv ts bds rs H') (fun σ' HE hM => ?_) fun kM => ?_
    rotate_left
    · refine ifB_go (tcall_go (ea_cons (ev_var rfl) (ea_cons (ev_var rfl) (ea_cons (ev_var rfl) ea_nil))) fun HE eE => ?_)
      have stE := stD.mono eE
      refine ⟨b, lb, lr, bds, rs, mo, co, rfl, stE.B, stE.wf.bok, stE.wf.h4, stE.wf.ok, stE.wf.im, by omega, m0.1, m0.2, k0.1, k0.2, stE.t, fun _ HF eF tF => ⟨false, rfl, no_if (kM _ _ ⟨lr, lv, rs, rfl, stE.exN eF tF⟩)⟩, fun hf HF lr' nl keep tF BF => ⟨true, rfl, yes_if ?_⟩⟩
      refine s_asgM ((evw_callW (ea_cons (ev_var (v := .ref lv) rfl) (ea_cons (ev_var (v := .int mo) rfl) (ea_cons (ev_var (v := .int co) rfl) ea_nil))) fun HG eG => ⟨lv, rs, mo, co, HF, rfl, (stE.pairs_put keep).mono eG, stE.wf.ok, by omega, eG, rfl⟩ : EvW _ _ HF _) HF (Ex.refl _) _ fun v HG eG ⟨p, ev, np, hp⟩ => ?_)
      subst ev
      exact kM _ _ ⟨lr', p, _, rfl, stE.put hlt m0.1 m0.2 k0.1 k0.2 hf nl keep tF BF eG hp np⟩
    obtain ⟨lr, lv, rs, rfl, stE⟩ := hM
    clear stD
    -- a bound changed
    refine q_mid (fun σ' H' => ∃ (lbp : Addr) (ts : List Addr) (bds : List Bd), σ' = [some (.ref a), some (.bl small), some (.int sca), some (.int (i : Int)), some (.ref lbp), some (.ref b), some (.int beg), some (.ref lv), some (.int c), some (.int mo), some (.int co), o11, o12, o13, none] ∧ S10 cJ cW cB Tb Hs small b lb lr lbp lv ts bds rs H') (fun σ' HF hM => ?_) fun kM => ?_
    rotate_left
    · have tst : EvT (tTest (tOp rEq (tOp (rI (fun _ j => 0 < j) fun i j => V.int (i % j)) (tOp (rI CDiv fun i j => V.int (i / j)) (tVar 8) (tC (.int 7))) (tC (.int 6))) (tC (.int 1)))) [some (.ref a), some (.bl small), some (.int sca), some (.int (i : Int)), some (.ref lbp), some (.ref b), some (.int beg), some (.ref lv), some (.int c), some (.int mo), some (.int co), o11, o12, o13, none] HE (decide (V.int (c / 7 % 6) = V.int 1)) := et_test (ev_op (ev_op (ev_op (ev_var rfl) ev_c (rv_I ⟨by decide, by decide⟩)) ev_c (rv_I (by decide))) ev_c (rv_eq rfl))
      refine s_when (D := { nx := _, rt := Q, bk := _, ct := _ }) tst (fun _ HF eF => ?_) fun _ HF eF => kM _ _ ⟨lbp, ts, bds, rfl, stE.mono eF⟩
      have stF := stE.mono eF
      have hSF := exN_l stF.e hS
      refine s_asgM (tcall_go (vs := [.ref b, .ref lbp, .ref lv, .int (cellV ns (3000 + (i : Int))), .int (if small = true then 0 else sca)]) (ea_cons (ev_var rfl) (ea_cons (ev_var rfl) (ea_cons (ev_var rfl) (ea_cons (cellAt (i := 3000 + (i : Int)) rfl hSF (ev_op ev_c (ev_var rfl) rv_I0) (by omega)) (ea_cons (ev_pick (ev_var rfl) ev_c (ev_var rfl)) ea_nil))))) fun HG eG => ?_)
      have stG := stF.mono eG
      exact ⟨b, lb, lr, lbp, lv, ts, bds, rs, _, _, rfl, stG.B, stG.wf, stG.hlb, stG.ht, stG.hP, stG.n1.1, stG.n1.2, stG.n2.1, stG.pos, cellV_nn ns _, by split <;> omega, by split <;> omega, stG.t, fun l ts' bds' HH z => kM _ _ ⟨l, ts', bds', rfl, stG.chg z fun s => by rw [if_pos s]⟩⟩
    obtain ⟨lbp, ts, bds, rfl, stF⟩ := hM
    clear stE
    -- what is asked
    have tst : EvT (tAnd (tTest (tOp rEq (tOp (rI (fun _ j => 0 < j) fun i j => V.int (i % j)) (tVar 3) (tC (.int 4))) (tC (.int 0)))) (tTest (tOp (rI0 fun i j => V.bl (decide (i < j))) (tVar 3) (tC (.int 40))))) [some (.ref a), some (.bl small), some (.int sca), some (.int (i : Int)), some (.ref lbp), some (.ref b), some (.int beg), some (.ref lv), some (.int c), some (.int mo), some (.int co), o11, o12, o13, none] HF (decide (V.int ((i : Int) % 4) = V.int 0) && decide ((i : Int) < 40)) := et_and (et_test (ev_op (ev_op (ev_var rfl) ev_c (rv_I (by decide))) ev_c (rv_eq rfl))) fun _ => et_test (ev_op (ev_var rfl) ev_c rv_I0)
    refine s_when (D := { nx := _, rt := Q, bk := _, ct := _ }) tst (fun _ HG eG => ?_) fun _ HG eG => ⟨lr, lbp, lv, ts, bds, rs, _, _, _, _, _, _, _, rfl, stF.mono eG⟩
    have stG := stF.mono eG
    have hSG := exN_l stG.e hS
    refine q_asg (D := { nx := _, rt := Q, bk := _, ct := _ }) (v := .int (cellV ns (101 + 2 * (i : Int)))) (cellAt (i := 101 + 2 * (i : Int)) rfl hSG (ev_op ev_c (ev_op ev_c (ev_var rfl) (rv_I (.inl ⟨by decide, by decide⟩))) rv_I0) (by omega)) fun HH eH => ?_
    have d0 := cellV_nn ns (101 + 2 * (i : Int))
    generalize cellV ns (101 + 2 * (i : Int)) = d at d0
    have dd0 : 0 ≤ d / 50 := Int.ediv_nonneg d0 (by decide)
    have din := cost_in dd0 sc.1 sc.2
    refine q_asg (D := { nx := _, rt := Q, bk := _, ct := _ }) (v := .int (if small = true then 1 + d / 50 % 9 else costV (d / 50) sca)) (ev_pick (ev_callF (ea_cons (ev_op (ev_var (v := .int d) rfl) ev_c (rv_I ⟨by decide, by decide⟩)) (ea_cons (ev_var (v := .int sca) rfl) ea_nil)) fun H2 e2 => ⟨_, _, rfl, ⟨dd0, sc.1, sc.2⟩, rfl⟩) (ev_op ev_c (ev_op (ev_op (ev_var (v := .int d) rfl) ev_c (rv_I ⟨by decide, by decide⟩)) ev_c (rv_I (by decide))) rv_I0) (ev_var rfl)) fun HI eI => ?_
    have k1 : 1 ≤ (if small = true then 1 + d / 50 % 9 else costV (d / 50) sca) ∧ (if small = true then 1 + d / 50 % 9 else costV (d / 50) sca) ≤ 1000000000 := by split <;> omega
    have k9 : small = true → (if small = true then 1 + d / 50 % 9 else costV (d / 50) sca) ≤ 9 := fun z => by rw [if_pos z]; omega
    generalize (if small = true then 1 + d / 50 % 9 else costV (d / 50) sca) = co2 at k1 k9
    refine q_asg (D := { nx := _, rt := Q, bk := _, ct := _ }) (v := .int (beg + d % 50)) (ev_op (ev_var (v := .int beg) rfl) (ev_op (ev_var (v := .int d) rfl) ev_c (rv_I (by decide))) rv_I0) fun HJ eJ => ?_
    have m1 : 0 ≤ beg + d % 50 ∧ beg + d % 50 ≤ 1000000000000 := by omega
    generalize beg + d % 50 = at_ at m1
    have stJ := stG.mono ((eH.trans eI).trans eJ)
    clear stF stG hSG eH eI eJ
    refine q_ifnB (tcall_go (ea_cons (ev_var rfl) (ea_cons (ev_var rfl) (ea_cons (ev_var rfl) (ea_cons (ev_var rfl) (ea_cons (ev_var rfl) ea_nil))))) fun HK eK => ?_)
    have stK := stJ.mono eK
    refine ⟨b, lb, lr, lbp, lv, ts, bds, rs, at_, co2, rfl, stK.B, stK.wf, stK.hlb, stK.ht, stK.hP, m1.1, m1.2, k1.1, k1.2, stK.t, fun HL eL tL => ⟨true, rfl, no_if ?_⟩⟩
    have stL := stK.exN eL tL
    refine q_asgM (D := { nx := _, rt := Q, bk := _, ct := _ }) (erl_go (t := at_) (c := co2) stL.B stL.wf.bok stL.wf.h4 stL.wf.ok stL.wf.kp (by have := stL.wf.hn; omega) stL.t m1.1 m1.2 k1.1 k1.2 (ev_var rfl) (ea_cons (ev_var rfl) (ea_cons (ev_var rfl) ea_nil)) fun HM eM tM => ?_)
    have stM := stL.exN eM tM
    have obo : EvT (tAnd (tB (tVar 1)) (tTest (tOp rNe (tVar 13) (tCall (spF ROne10) [] C8.E0 (tCons (tVar 4) (tCons (tVar 7) (tCons (tVar 12) (tCons (tVar 10) tNil)))))))) [some (.ref a), some (.bl small), some (.int sca), some (.int (i : Int)), some (.ref lbp), some (.ref b), some (.int beg), some (.ref lv), some (.int c), some (.int mo), some (.int co2), some (.int d), some (.int at_), some (opV (erl bds rs at_ co2)), none] HM (small && false) := et_and (et_B (ev_var rfl)) fun hs => et_is (et_test (ev_op (y := opV (erl bds rs at_ co2)) (ev_var rfl) (ev_callF (ea_cons (ev_var rfl) (ea_cons (ev_var rfl) (ea_cons (ev_var rfl) (ea_cons (ev_var rfl) ea_nil)))) fun H2 e2 => ⟨lbp, lv, ts, bds, rs, at_, co2, rfl, e2 _ _ stM.hlb, stM.ht.mono e2, stM.hP.mono e2, stM.wf.bok, stM.wf.h4, stM.wf.ok, stM.wf.kp, by have := stM.wf.hn; omega, k1.1, k9 hs, stM.sm hs, m1.1, by omega, fun q hq => ⟨(stM.wf.im q hq).1, by have := (stM.wf.im q hq).2; omega⟩, rfl⟩) (rv_ne (by cases erl bds rs at_ co2 <;> rfl)))) (by rw [decide_eq_true rfl]; rfl)
    rw [Bool.and_false] at obo
    refine s_when (D := { nx := _, rt := Q, bk := _, ct := _ }) obo (fun z => by cases z) fun _ HN eN => ⟨lr, lbp, lv, ts, bds, rs, _, _, _, _, _, _, _, rfl, stM.mono eN⟩
  · subst hσ
    obtain ⟨dd, hob⟩ := st.B.ob
    refine ret_go (andv_go ?_)
    refine (ev_opWV (evw_methW (ev_var (v := .ref b) rfl) hob rfl ea_nil fun H2 e2 => ⟨b, lb, lr, _, _, H9, rfl, st.B.mono e2, e2, rfl⟩) (ev_var (v := .ref lv) rfl) fun v H1 H2 e1 ⟨p, ev, _, hp⟩ e2 => (by
      subst ev
      exact rv_eqRows (hp.mono e2) (st.hP.mono (e1.trans e2))) : Ev _ _ H9 (.bl true)) H9 (Ex.refl _) _ fun HA eA => ⟨true, rfl, yes_if ?_⟩
    exact tcall_go (ea_cons (ev_var (v := .int beg) rfl) ea_nil) fun HB eB => ⟨beg, rfl, bg.1, by omega, (st.mono (eA.trans eB)).t, fun HC => q HC⟩
end
section
variable {P : Program} {w : World} {K : PySem.W.Frag} {mg : Str → Option Value} {base : Heap}
theorem ok_law {f cJ cW cB : Addr} {cs : Nat → Addr} {fd : FuncData} {Tb : List NdefX.NTab} (T : Blt mg) (F : C8.Fun K "law" "law" s_law f fd)
    (c_Lcell : C8.Cal P w K mg base 1 "_law_cell" (spF (RCell K)) []) (c_Lscale : C8.Cal P w K mg base 1 "_law_scale" (spF (R1 (fun c => 0 ≤ c) scaleV)) []) (c_Lbound : C8.Cal P w K mg base 1 "_law_bound" (spW RBound) []) (c_Lwide : C8.Cal P w K mg base 1 "_law_wide" (spW RWide) []) (c_Lmade : C8.Cal P w K mg base 4 "_law_made" (spW (RMade cJ cW)) [])
    (c_Lcost : C8.Cal P w K mg base 1 "_law_cost" (spF (R2' (fun c sc => 0 ≤ c ∧ 1 ≤ sc ∧ sc ≤ 40000000) costV)) []) (m_Book : MakX P w K mg base 3 "Book" cB (spBInit K cJ cW cB (cs 0)) ["self", "bounds"]) (t_Book_visits : C8.Met P w K mg base 1 cB "visits" (spW (RVis cJ cW cB)) []) (t_Book_drop : MetX P w K mg base 3 cB "drop" (spDrop K cJ cW cB cs)) (t_Book_earliest : MetX P w K mg base 6 cB "earliest" (spEarly K cJ cW cB cs Tb))
    (c_Lput : C8.Cal P w K mg base 7 "_law_put" (spPut10 cJ cW cB Tb) []) (c_Lwith : C8.Cal P w K mg base 1 "_law_with" (spW RRow) []) (c_Lchanged : C8.Cal P w K mg base 7 "_law_changed" (spChg10 cJ cW cB Tb) []) (c_Lasked : C8.Cal P w K mg base 7 "_law_asked" (spAsk10 cJ cW cB Tb) []) (c_Lone_by_one : C8.Cal P w K mg base 4 "_law_one_by_one" (spF ROne10) []) (c_Lends : C8.Cal P w K mg base 7 "_law_ends" (spEnds10 Tb) []) : FnOk P w K mg base C8.CX0 9 f fd ["_law_script"] (spLaw10 Tb K) := by
  refine C8.fn0 F sc_law (fun vs H Q E h => ?_) (fun cdv A outer s H vs Q E hr h => ?_)
  · obtain ⟨a, ns, rfl, _⟩ := h
    rfl
  · obtain ⟨a, ns, rfl, hS, hl, hT, q⟩ := h
    exact law_body T hr c_Lcell c_Lscale c_Lbound c_Lwide c_Lmade c_Lcost m_Book t_Book_visits t_Book_drop t_Book_earliest c_Lput c_Lwith c_Lchanged c_Lasked c_Lone_by_one c_Lends hS hl hT q
end

section
theorem all_mk {l : PySem.W.OpenLaw} {w : World} {K : PySem.W.Frag} {h : Heap} {mg : Str → Option Value} {fa : Addr} (X : K.In h) (G : h.Ns mainGlobals mg) (hfa : mg "law" = some (.ref fa))
    {t_LARGEST_SIZE : Tok}
    {t_LARGEST_FLOW : Tok}
    {t_LARGEST_MOST : Tok}
    {t_LARGEST_SPAN : Tok}
    {t_MOST_BOUNDS : Tok}
    {t_LARGEST_MOMENT : Tok}
    {t_LARGEST_COST : Tok}
    {t_MOST_VISITS : Tok}
    {C_JarMeter : Addr}
    {od1 an1 : Option Addr} {sl1 : Array (Option Value)} {oc1 kV1 dc1 pm1 cd1 ct1 : Value} {f1 : Addr}
    {od2 an2 : Option Addr} {sl2 : Array (Option Value)} {oc2 kV2 dc2 pm2 cd2 ct2 : Value} {f2 : Addr}
    {od3 an3 : Option Addr} {sl3 : Array (Option Value)} {oc3 kV3 dc3 pm3 cd3 ct3 : Value} {f3 : Addr}
    {od4 an4 : Option Addr} {sl4 : Array (Option Value)} {oc4 kV4 dc4 pm4 cd4 ct4 : Value} {f4 : Addr}
    {C_WindowMeter : Addr}
    {od5 an5 : Option Addr} {sl5 : Array (Option Value)} {oc5 kV5 dc5 pm5 cd5 ct5 : Value} {f5 : Addr}
    {od6 an6 : Option Addr} {sl6 : Array (Option Value)} {oc6 kV6 dc6 pm6 cd6 ct6 : Value} {f6 : Addr}
    {od7 an7 : Option Addr} {sl7 : Array (Option Value)} {oc7 kV7 dc7 pm7 cd7 ct7 : Value} {f7 : Addr}
    {od8 an8 : Option Addr} {sl8 : Array (Option Value)} {oc8 kV8 dc8 pm8 cd8 ct8 : Value} {f8 : Addr}
    {C_Jar : Addr}
    {od9 an9 : Option Addr} {sl9 : Array (Option Value)} {oc9 kV9 dc9 pm9 cd9 ct9 : Value} {f9 : Addr}
    {od10 an10 : Option Addr} {sl10 : Array (Option Value)} {oc10 kV10 dc10 pm10 cd10 ct10 : Value} {f10 : Addr}
    {od11 an11 : Option Addr} {sl11 : Array (Option Value)} {oc11 kV11 dc11 pm11 cd11 ct11 : Value} {f11 : Addr}
    {C_Window : Addr}
    {od12 an12 : Option Addr} {sl12 : Array (Option Value)} {oc12 kV12 dc12 pm12 cd12 ct12 : Value} {f12 : Addr}
    {od13 an13 : Option Addr} {sl13 : Array (Option Value)} {oc13 kV13 dc13 pm13 cd13 ct13 : Value} {f13 : Addr}
    {od14 an14 : Option Addr} {sl14 : Array (Option Value)} {oc14 kV14 dc14 pm14 cd14 ct14 : Value} {f14 : Addr}
    {C_Book : Addr}
    {od15 an15 : Option Addr} {sl15 : Array (Option Value)} {oc15 kV15 dc15 pm15 cd15 ct15 : Value} {f15 : Addr}
    {od16 an16 : Option Addr} {sl16 : Array (Option Value)} {oc16 kV16 dc16 pm16 cd16 ct16 : Value} {f16 : Addr}
    {od17 an17 : Option Addr} {sl17 : Array (Option Value)} {oc17 kV17 dc17 pm17 cd17 ct17 : Value} {f17 : Addr}
    {od18 an18 : Option Addr} {sl18 : Array (Option Value)} {oc18 kV18 dc18 pm18 cd18 ct18 : Value} {f18 : Addr}
    {od19 an19 : Option Addr} {sl19 : Array (Option Value)} {oc19 kV19 dc19 pm19 cd19 ct19 : Value} {f19 : Addr}
    {od20 an20 : Option Addr} {sl20 : Array (Option Value)} {oc20 kV20 dc20 pm20 cd20 ct20 : Value} {f20 : Addr}
    {od21 an21 : Option Addr} {sl21 : Array (Option Value)} {oc21 kV21 dc21 pm21 cd21 ct21 : Value} {f21 : Addr}
    {od22 an22 : Option Addr} {sl22 : Array (Option Value)} {oc22 kV22 dc22 pm22 cd22 ct22 : Value} {f22 : Addr}
    {cG Cx0 Cx1 Cx2 Cx3 Cx4 Cx5 Cx6 : Addr}
    {nm_6 : Str}
    {qn_6 : Str}
    {Nn_6 : Addr}
    {bs_6 : List Value}
    {bm_6 : List Value}
    {sn_6 : List Str}
    {sub_6 : List Value}
    {ab_6 : Bool}
    {col_6 : Option Bool}
    {dd_6 : Option Addr}
    {k0_6 : Option Value}
    {k1_6 : Option Value}
    {k2_6 : Option Value}
    {k3_6 : Option Value}
    {k5_6 : Option Value}
    {f_6 : Addr}
    {cc_6 : Addr}
    {cda_6 : Addr}
    {oc_6 : Value}
    {kV_6 : Value}
    {dc_6 : Value}
    {pm_6 : Value}
    {ct_6 : Value}
    {od_6 : Option Addr}
    {an_6 : Option Addr}
    {sl_6 : Array (Option Value)}
    {cl_6 : Value}
    {cld_6 : Option Addr}
    {csl_6 : Array (Option Value)}
    {ccl_6 : Value}
    {cdd_6 : Option Addr}
    {vs_6 : Array Value}
    {ccs_6 : Array (Option Value)}
    {file_6 : Str}
    {tf_6 : Tok}
    {od23 an23 : Option Addr} {sl23 : Array (Option Value)} {oc23 kV23 dc23 pm23 cd23 ct23 : Value} {f23 : Addr}
    {od24 an24 : Option Addr} {sl24 : Array (Option Value)} {oc24 kV24 dc24 pm24 cd24 ct24 : Value} {f24 : Addr}
    {od25 an25 : Option Addr} {sl25 : Array (Option Value)} {oc25 kV25 dc25 pm25 cd25 ct25 : Value} {f25 : Addr}
    {od26 an26 : Option Addr} {sl26 : Array (Option Value)} {oc26 kV26 dc26 pm26 cd26 ct26 : Value} {f26 : Addr}
    {od27 an27 : Option Addr} {sl27 : Array (Option Value)} {oc27 kV27 dc27 pm27 cd27 ct27 : Value} {f27 : Addr}
    {od28 an28 : Option Addr} {sl28 : Array (Option Value)} {oc28 kV28 dc28 pm28 cd28 ct28 : Value} {f28 : Addr}
    {od29 an29 : Option Addr} {sl29 : Array (Option Value)} {oc29 kV29 dc29 pm29 cd29 ct29 : Value} {f29 : Addr}
    {od30 an30 : Option Addr} {sl30 : Array (Option Value)} {oc30 kV30 dc30 pm30 cd30 ct30 : Value} {f30 : Addr}
    {od31 an31 : Option Addr} {sl31 : Array (Option Value)} {oc31 kV31 dc31 pm31 cd31 ct31 : Value} {f31 : Addr}
    {od32 an32 : Option Addr} {sl32 : Array (Option Value)} {oc32 kV32 dc32 pm32 cd32 ct32 : Value} {f32 : Addr}
    {od33 an33 : Option Addr} {sl33 : Array (Option Value)} {oc33 kV33 dc33 pm33 cd33 ct33 : Value} {f33 : Addr}
    {od34 an34 : Option Addr} {sl34 : Array (Option Value)} {oc34 kV34 dc34 pm34 cd34 ct34 : Value} {f34 : Addr}
    {od35 an35 : Option Addr} {sl35 : Array (Option Value)} {oc35 kV35 dc35 pm35 cd35 ct35 : Value} {f35 : Addr}
    {od36 an36 : Option Addr} {sl36 : Array (Option Value)} {oc36 kV36 dc36 pm36 cd36 ct36 : Value} {f36 : Addr}
    {od37 an37 : Option Addr} {sl37 : Array (Option Value)} {oc37 kV37 dc37 pm37 cd37 ct37 : Value} {f37 : Addr}
    {od38 an38 : Option Addr} {sl38 : Array (Option Value)} {oc38 kV38 dc38 pm38 cd38 ct38 : Value} {f38 : Addr}
    {od39 an39 : Option Addr} {sl39 : Array (Option Value)} {oc39 kV39 dc39 pm39 cd39 ct39 : Value} {f39 : Addr}
    {od40 an40 : Option Addr} {sl40 : Array (Option Value)} {oc40 kV40 dc40 pm40 cd40 ct40 : Value} {f40 : Addr}
    {od41 an41 : Option Addr} {sl41 : Array (Option Value)} {oc41 kV41 dc41 pm41 cd41 ct41 : Value} {f41 : Addr}
    {od42 an42 : Option Addr} {sl42 : Array (Option Value)} {oc42 kV42 dc42 pm42 cd42 ct42 : Value} {f42 : Addr}
    {od43 an43 : Option Addr} {sl43 : Array (Option Value)} {oc43 kV43 dc43 pm43 cd43 ct43 : Value} {f43 : Addr}
    {od44 an44 : Option Addr} {sl44 : Array (Option Value)} {oc44 kV44 dc44 pm44 cd44 ct44 : Value} {f44 : Addr}
    {od45 an45 : Option Addr} {sl45 : Array (Option Value)} {oc45 kV45 dc45 pm45 cd45 ct45 : Value} {f45 : Addr}
    {od46 an46 : Option Addr} {sl46 : Array (Option Value)} {oc46 kV46 dc46 pm46 cd46 ct46 : Value} {f46 : Addr}
    {od47 an47 : Option Addr} {sl47 : Array (Option Value)} {oc47 kV47 dc47 pm47 cd47 ct47 : Value} {f47 : Addr}
    {od48 an48 : Option Addr} {sl48 : Array (Option Value)} {oc48 kV48 dc48 pm48 cd48 ct48 : Value} {f48 : Addr}
    {od49 an49 : Option Addr} {sl49 : Array (Option Value)} {oc49 kV49 dc49 pm49 cd49 ct49 : Value} {f49 : Addr}
    {od50 an50 : Option Addr} {sl50 : Array (Option Value)} {oc50 kV50 dc50 pm50 cd50 ct50 : Value} {f50 : Addr}
    {od51 an51 : Option Addr} {sl51 : Array (Option Value)} {oc51 kV51 dc51 pm51 cd51 ct51 : Value} {f51 : Addr}
    {od52 an52 : Option Addr} {sl52 : Array (Option Value)} {oc52 kV52 dc52 pm52 cd52 ct52 : Value} {f52 : Addr}
    {od53 an53 : Option Addr} {sl53 : Array (Option Value)} {oc53 kV53 dc53 pm53 cd53 ct53 : Value} {f53 : Addr}
    {od54 an54 : Option Addr} {sl54 : Array (Option Value)} {oc54 kV54 dc54 pm54 cd54 ct54 : Value} {f54 : Addr}
    {cB P0 : Addr}
    {eB : Value}
    {ddB : Option Addr}
    {vsB : Array Value}
    {slB : Array (Option Value)}
    (z_len : PySem.W.nsIn K mainGlobals "len" = some none)
    (z_range : PySem.W.nsIn K mainGlobals "range" = some none)
    (z_max : PySem.W.nsIn K mainGlobals "max" = some none)
    (z_min : PySem.W.nsIn K mainGlobals "min" = some none)
    (z_int : PySem.W.nsIn K mainGlobals "int" = some none)
    (z_bool : PySem.W.nsIn K mainGlobals "bool" = some none)
    (z_tuple : PySem.W.nsIn K mainGlobals "tuple" = some none)
    (z_list : PySem.W.nsIn K mainGlobals "list" = some none)
    (z_isinstance : PySem.W.nsIn K mainGlobals "isinstance" = some none)
    (z_enumerate : PySem.W.nsIn K mainGlobals "enumerate" = some none)
    (z_super : PySem.W.nsIn K mainGlobals "super" = some none)
    (z_reversed : PySem.W.nsIn K mainGlobals "reversed" = some none)
    (z_all : PySem.W.nsIn K mainGlobals "all" = some none)
    (z_sorted : PySem.W.nsIn K mainGlobals "sorted" = some none)
    (z_set : PySem.W.nsIn K mainGlobals "set" = some none)
    (g_LARGEST_SIZE : PySem.W.nsIn K mainGlobals "LARGEST_SIZE" = some (some (.int 1000000000000000 t_LARGEST_SIZE)))
    (g_LARGEST_FLOW : PySem.W.nsIn K mainGlobals "LARGEST_FLOW" = some (some (.int 1000000000 t_LARGEST_FLOW)))
    (g_LARGEST_MOST : PySem.W.nsIn K mainGlobals "LARGEST_MOST" = some (some (.int 1000000000000000 t_LARGEST_MOST)))
    (g_LARGEST_SPAN : PySem.W.nsIn K mainGlobals "LARGEST_SPAN" = some (some (.int 1000000000000 t_LARGEST_SPAN)))
    (g_MOST_BOUNDS : PySem.W.nsIn K mainGlobals "MOST_BOUNDS" = some (some (.int 4 t_MOST_BOUNDS)))
    (g_LARGEST_MOMENT : PySem.W.nsIn K mainGlobals "LARGEST_MOMENT" = some (some (.int 1000000000000 t_LARGEST_MOMENT)))
    (g_LARGEST_COST : PySem.W.nsIn K mainGlobals "LARGEST_COST" = some (some (.int 1000000000 t_LARGEST_COST)))
    (g_MOST_VISITS : PySem.W.nsIn K mainGlobals "MOST_VISITS" = some (some (.int 40 t_MOST_VISITS)))
    (aC_JarMeter : PySem.W.nsIn K mainGlobals "JarMeter" = some (some (.ref C_JarMeter)))
    (pg_JarMeter : PySem.W.plainGet K C_JarMeter Str.empty = true)
    (hd_JarMeter : PySem.W.hasDictIn K C_JarMeter = true)
    (po_JarMeter : PySem.W.plainOver K C_JarMeter = true)
    (sa_JarMeter : PySem.W.findIn K (.ref C_JarMeter) "__setattr__" = some (some (.builtin "object.__setattr__")))
    (mk_JarMeter : PySem.W.makesIn K C_JarMeter = true)
    (kc_JarMeter : PySem.W.keepIn K (.ref C_JarMeter) = true)
    (n_JarMeter_0 : PySem.W.findIn K (.ref C_JarMeter) "_size" = some none)
    (n_JarMeter_1 : PySem.W.findIn K (.ref C_JarMeter) "_flow" = some none)
    (n_JarMeter_2 : PySem.W.findIn K (.ref C_JarMeter) "_level" = some none)
    (n_JarMeter_3 : PySem.W.findIn K (.ref C_JarMeter) "_moment" = some none)
    (a1 : PySem.W.findIn K (.ref C_JarMeter) "__init__" = some (some (.ref f1)))
    (l1 : K.lookup f1 = some ⟨oc1, od1, .func (PySem.W.fnOf "__init__" "JarMeter.__init__" (C8.fnArgs s_JarMeter_init) (C8.fnBody s_JarMeter_init) (C8.fnScope s_JarMeter_init) .none kV1 dc1 pm1 an1 cd1 ct1), sl1⟩)
    (c1 : PySem.W.codeIn K cd1 "JarMeter.__init__" = true)
    (k1 : PySem.W.keepIn K (.ref f1) = true)
    (i1 : PySem.W.isFn K (.ref f1) = true)
    (a2 : PySem.W.findIn K (.ref C_JarMeter) "wait" = some (some (.ref f2)))
    (l2 : K.lookup f2 = some ⟨oc2, od2, .func (PySem.W.fnOf "wait" "JarMeter.wait" (C8.fnArgs s_JarMeter_wait) (C8.fnBody s_JarMeter_wait) (C8.fnScope s_JarMeter_wait) .none kV2 dc2 pm2 an2 cd2 ct2), sl2⟩)
    (c2 : PySem.W.codeIn K cd2 "JarMeter.wait" = true)
    (k2 : PySem.W.keepIn K (.ref f2) = true)
    (i2 : PySem.W.isFn K (.ref f2) = true)
    (a3 : PySem.W.findIn K (.ref C_JarMeter) "take" = some (some (.ref f3)))
    (l3 : K.lookup f3 = some ⟨oc3, od3, .func (PySem.W.fnOf "take" "JarMeter.take" (C8.fnArgs s_JarMeter_take) (C8.fnBody s_JarMeter_take) (C8.fnScope s_JarMeter_take) .none kV3 dc3 pm3 an3 cd3 ct3), sl3⟩)
    (c3 : PySem.W.codeIn K cd3 "JarMeter.take" = true)
    (k3 : PySem.W.keepIn K (.ref f3) = true)
    (i3 : PySem.W.isFn K (.ref f3) = true)
    (a4 : PySem.W.findIn K (.ref C_JarMeter) "_level_at" = some (some (.ref f4)))
    (l4 : K.lookup f4 = some ⟨oc4, od4, .func (PySem.W.fnOf "_level_at" "JarMeter._level_at" (C8.fnArgs s_JarMeter__level_at) (C8.fnBody s_JarMeter__level_at) (C8.fnScope s_JarMeter__level_at) .none kV4 dc4 pm4 an4 cd4 ct4), sl4⟩)
    (c4 : PySem.W.codeIn K cd4 "JarMeter._level_at" = true)
    (k4 : PySem.W.keepIn K (.ref f4) = true)
    (i4 : PySem.W.isFn K (.ref f4) = true)
    (aC_WindowMeter : PySem.W.nsIn K mainGlobals "WindowMeter" = some (some (.ref C_WindowMeter)))
    (pg_WindowMeter : PySem.W.plainGet K C_WindowMeter Str.empty = true)
    (hd_WindowMeter : PySem.W.hasDictIn K C_WindowMeter = true)
    (po_WindowMeter : PySem.W.plainOver K C_WindowMeter = true)
    (sa_WindowMeter : PySem.W.findIn K (.ref C_WindowMeter) "__setattr__" = some (some (.builtin "object.__setattr__")))
    (mk_WindowMeter : PySem.W.makesIn K C_WindowMeter = true)
    (kc_WindowMeter : PySem.W.keepIn K (.ref C_WindowMeter) = true)
    (n_WindowMeter_0 : PySem.W.findIn K (.ref C_WindowMeter) "_most" = some none)
    (n_WindowMeter_1 : PySem.W.findIn K (.ref C_WindowMeter) "_span" = some none)
    (n_WindowMeter_2 : PySem.W.findIn K (.ref C_WindowMeter) "_rows" = some none)
    (n_WindowMeter_3 : PySem.W.findIn K (.ref C_WindowMeter) "_gone" = some none)
    (n_WindowMeter_4 : PySem.W.findIn K (.ref C_WindowMeter) "_total" = some none)
    (a5 : PySem.W.findIn K (.ref C_WindowMeter) "__init__" = some (some (.ref f5)))
    (l5 : K.lookup f5 = some ⟨oc5, od5, .func (PySem.W.fnOf "__init__" "WindowMeter.__init__" (C8.fnArgs s_WindowMeter_init) (C8.fnBody s_WindowMeter_init) (C8.fnScope s_WindowMeter_init) .none kV5 dc5 pm5 an5 cd5 ct5), sl5⟩)
    (c5 : PySem.W.codeIn K cd5 "WindowMeter.__init__" = true)
    (k5 : PySem.W.keepIn K (.ref f5) = true)
    (i5 : PySem.W.isFn K (.ref f5) = true)
    (a6 : PySem.W.findIn K (.ref C_WindowMeter) "wait" = some (some (.ref f6)))
    (l6 : K.lookup f6 = some ⟨oc6, od6, .func (PySem.W.fnOf "wait" "WindowMeter.wait" (C8.fnArgs s_WindowMeter_wait) (C8.fnBody s_WindowMeter_wait) (C8.fnScope s_WindowMeter_wait) .none kV6 dc6 pm6 an6 cd6 ct6), sl6⟩)
    (c6 : PySem.W.codeIn K cd6 "WindowMeter.wait" = true)
    (k6 : PySem.W.keepIn K (.ref f6) = true)
    (i6 : PySem.W.isFn K (.ref f6) = true)
    (a7 : PySem.W.findIn K (.ref C_WindowMeter) "take" = some (some (.ref f7)))
    (l7 : K.lookup f7 = some ⟨oc7, od7, .func (PySem.W.fnOf "take" "WindowMeter.take" (C8.fnArgs s_WindowMeter_take) (C8.fnBody s_WindowMeter_take) (C8.fnScope s_WindowMeter_take) .none kV7 dc7 pm7 an7 cd7 ct7), sl7⟩)
    (c7 : PySem.W.codeIn K cd7 "WindowMeter.take" = true)
    (k7 : PySem.W.keepIn K (.ref f7) = true)
    (i7 : PySem.W.isFn K (.ref f7) = true)
    (a8 : PySem.W.findIn K (.ref C_WindowMeter) "_forget" = some (some (.ref f8)))
    (l8 : K.lookup f8 = some ⟨oc8, od8, .func (PySem.W.fnOf "_forget" "WindowMeter._forget" (C8.fnArgs s_WindowMeter__forget) (C8.fnBody s_WindowMeter__forget) (C8.fnScope s_WindowMeter__forget) .none kV8 dc8 pm8 an8 cd8 ct8), sl8⟩)
    (c8 : PySem.W.codeIn K cd8 "WindowMeter._forget" = true)
    (k8 : PySem.W.keepIn K (.ref f8) = true)
    (i8 : PySem.W.isFn K (.ref f8) = true)
    (aC_Jar : PySem.W.nsIn K mainGlobals "Jar" = some (some (.ref C_Jar)))
    (pg_Jar : PySem.W.plainGet K C_Jar Str.empty = true)
    (hd_Jar : PySem.W.hasDictIn K C_Jar = true)
    (po_Jar : PySem.W.plainOver K C_Jar = true)
    (sa_Jar : PySem.W.findIn K (.ref C_Jar) "__setattr__" = some (some (.builtin "object.__setattr__")))
    (mk_Jar : PySem.W.makesIn K C_Jar = true)
    (kc_Jar : PySem.W.keepIn K (.ref C_Jar) = true)
    (n_Jar_0 : PySem.W.findIn K (.ref C_Jar) "_size" = some none)
    (n_Jar_1 : PySem.W.findIn K (.ref C_Jar) "_flow" = some none)
    (a9 : PySem.W.findIn K (.ref C_Jar) "__init__" = some (some (.ref f9)))
    (l9 : K.lookup f9 = some ⟨oc9, od9, .func (PySem.W.fnOf "__init__" "Jar.__init__" (C8.fnArgs s_Jar_init) (C8.fnBody s_Jar_init) (C8.fnScope s_Jar_init) .none kV9 dc9 pm9 an9 cd9 ct9), sl9⟩)
    (c9 : PySem.W.codeIn K cd9 "Jar.__init__" = true)
    (k9 : PySem.W.keepIn K (.ref f9) = true)
    (i9 : PySem.W.isFn K (.ref f9) = true)
    (a10 : PySem.W.findIn K (.ref C_Jar) "room" = some (some (.ref f10)))
    (l10 : K.lookup f10 = some ⟨oc10, od10, .func (PySem.W.fnOf "room" "Jar.room" (C8.fnArgs s_Jar_room) (C8.fnBody s_Jar_room) (C8.fnScope s_Jar_room) .none kV10 dc10 pm10 an10 cd10 ct10), sl10⟩)
    (c10 : PySem.W.codeIn K cd10 "Jar.room" = true)
    (k10 : PySem.W.keepIn K (.ref f10) = true)
    (i10 : PySem.W.isFn K (.ref f10) = true)
    (a11 : PySem.W.findIn K (.ref C_Jar) "meter" = some (some (.ref f11)))
    (l11 : K.lookup f11 = some ⟨oc11, od11, .func (PySem.W.fnOf "meter" "Jar.meter" (C8.fnArgs s_Jar_meter) (C8.fnBody s_Jar_meter) (C8.fnScope s_Jar_meter) .none kV11 dc11 pm11 an11 cd11 ct11), sl11⟩)
    (c11 : PySem.W.codeIn K cd11 "Jar.meter" = true)
    (k11 : PySem.W.keepIn K (.ref f11) = true)
    (i11 : PySem.W.isFn K (.ref f11) = true)
    (aC_Window : PySem.W.nsIn K mainGlobals "Window" = some (some (.ref C_Window)))
    (pg_Window : PySem.W.plainGet K C_Window Str.empty = true)
    (hd_Window : PySem.W.hasDictIn K C_Window = true)
    (po_Window : PySem.W.plainOver K C_Window = true)
    (sa_Window : PySem.W.findIn K (.ref C_Window) "__setattr__" = some (some (.builtin "object.__setattr__")))
    (mk_Window : PySem.W.makesIn K C_Window = true)
    (kc_Window : PySem.W.keepIn K (.ref C_Window) = true)
    (n_Window_0 : PySem.W.findIn K (.ref C_Window) "_most" = some none)
    (n_Window_1 : PySem.W.findIn K (.ref C_Window) "_span" = some none)
    (a12 : PySem.W.findIn K (.ref C_Window) "__init__" = some (some (.ref f12)))
    (l12 : K.lookup f12 = some ⟨oc12, od12, .func (PySem.W.fnOf "__init__" "Window.__init__" (C8.fnArgs s_Window_init) (C8.fnBody s_Window_init) (C8.fnScope s_Window_init) .none kV12 dc12 pm12 an12 cd12 ct12), sl12⟩)
    (c12 : PySem.W.codeIn K cd12 "Window.__init__" = true)
    (k12 : PySem.W.keepIn K (.ref f12) = true)
    (i12 : PySem.W.isFn K (.ref f12) = true)
    (a13 : PySem.W.findIn K (.ref C_Window) "room" = some (some (.ref f13)))
    (l13 : K.lookup f13 = some ⟨oc13, od13, .func (PySem.W.fnOf "room" "Window.room" (C8.fnArgs s_Window_room) (C8.fnBody s_Window_room) (C8.fnScope s_Window_room) .none kV13 dc13 pm13 an13 cd13 ct13), sl13⟩)
    (c13 : PySem.W.codeIn K cd13 "Window.room" = true)
    (k13 : PySem.W.keepIn K (.ref f13) = true)
    (i13 : PySem.W.isFn K (.ref f13) = true)
    (a14 : PySem.W.findIn K (.ref C_Window) "meter" = some (some (.ref f14)))
    (l14 : K.lookup f14 = some ⟨oc14, od14, .func (PySem.W.fnOf "meter" "Window.meter" (C8.fnArgs s_Window_meter) (C8.fnBody s_Window_meter) (C8.fnScope s_Window_meter) .none kV14 dc14 pm14 an14 cd14 ct14), sl14⟩)
    (c14 : PySem.W.codeIn K cd14 "Window.meter" = true)
    (k14 : PySem.W.keepIn K (.ref f14) = true)
    (i14 : PySem.W.isFn K (.ref f14) = true)
    (aC_Book : PySem.W.nsIn K mainGlobals "Book" = some (some (.ref C_Book)))
    (pg_Book : PySem.W.plainGet K C_Book Str.empty = true)
    (hd_Book : PySem.W.hasDictIn K C_Book = true)
    (po_Book : PySem.W.plainOver K C_Book = true)
    (sa_Book : PySem.W.findIn K (.ref C_Book) "__setattr__" = some (some (.builtin "object.__setattr__")))
    (mk_Book : PySem.W.makesIn K C_Book = true)
    (kc_Book : PySem.W.keepIn K (.ref C_Book) = true)
    (n_Book_0 : PySem.W.findIn K (.ref C_Book) "_bounds" = some none)
    (n_Book_1 : PySem.W.findIn K (.ref C_Book) "_row" = some none)
    (a15 : PySem.W.findIn K (.ref C_Book) "__init__" = some (some (.ref f15)))
    (l15 : K.lookup f15 = some ⟨oc15, od15, .func (PySem.W.fnOf "__init__" "Book.__init__" (C8.fnArgs s_Book_init) (C8.fnBody s_Book_init) (C8.fnScope s_Book_init) .none kV15 dc15 pm15 an15 cd15 ct15), sl15⟩)
    (c15 : PySem.W.codeIn K cd15 "Book.__init__" = true)
    (k15 : PySem.W.keepIn K (.ref f15) = true)
    (i15 : PySem.W.isFn K (.ref f15) = true)
    (a16 : PySem.W.findIn K (.ref C_Book) "visits" = some (some (.ref f16)))
    (l16 : K.lookup f16 = some ⟨oc16, od16, .func (PySem.W.fnOf "visits" "Book.visits" (C8.fnArgs s_Book_visits) (C8.fnBody s_Book_visits) (C8.fnScope s_Book_visits) .none kV16 dc16 pm16 an16 cd16 ct16), sl16⟩)
    (c16 : PySem.W.codeIn K cd16 "Book.visits" = true)
    (k16 : PySem.W.keepIn K (.ref f16) = true)
    (i16 : PySem.W.isFn K (.ref f16) = true)
    (a17 : PySem.W.findIn K (.ref C_Book) "put" = some (some (.ref f17)))
    (l17 : K.lookup f17 = some ⟨oc17, od17, .func (PySem.W.fnOf "put" "Book.put" (C8.fnArgs s_Book_put) (C8.fnBody s_Book_put) (C8.fnScope s_Book_put) .none kV17 dc17 pm17 an17 cd17 ct17), sl17⟩)
    (c17 : PySem.W.codeIn K cd17 "Book.put" = true)
    (k17 : PySem.W.keepIn K (.ref f17) = true)
    (i17 : PySem.W.isFn K (.ref f17) = true)
    (a18 : PySem.W.findIn K (.ref C_Book) "drop" = some (some (.ref f18)))
    (l18 : K.lookup f18 = some ⟨oc18, od18, .func (PySem.W.fnOf "drop" "Book.drop" (C8.fnArgs s_Book_drop) (C8.fnBody s_Book_drop) (C8.fnScope s_Book_drop) .none kV18 dc18 pm18 an18 cd18 ct18), sl18⟩)
    (c18 : PySem.W.codeIn K cd18 "Book.drop" = true)
    (k18 : PySem.W.keepIn K (.ref f18) = true)
    (i18 : PySem.W.isFn K (.ref f18) = true)
    (a19 : PySem.W.findIn K (.ref C_Book) "change" = some (some (.ref f19)))
    (l19 : K.lookup f19 = some ⟨oc19, od19, .func (PySem.W.fnOf "change" "Book.change" (C8.fnArgs s_Book_change) (C8.fnBody s_Book_change) (C8.fnScope s_Book_change) .none kV19 dc19 pm19 an19 cd19 ct19), sl19⟩)
    (c19 : PySem.W.codeIn K cd19 "Book.change" = true)
    (k19 : PySem.W.keepIn K (.ref f19) = true)
    (i19 : PySem.W.isFn K (.ref f19) = true)
    (a20 : PySem.W.findIn K (.ref C_Book) "earliest" = some (some (.ref f20)))
    (l20 : K.lookup f20 = some ⟨oc20, od20, .func (PySem.W.fnOf "earliest" "Book.earliest" (C8.fnArgs s_Book_earliest) (C8.fnBody s_Book_earliest) (C8.fnScope s_Book_earliest) .none kV20 dc20 pm20 an20 cd20 ct20), sl20⟩)
    (c20 : PySem.W.codeIn K cd20 "Book.earliest" = true)
    (k20 : PySem.W.keepIn K (.ref f20) = true)
    (i20 : PySem.W.isFn K (.ref f20) = true)
    (a21 : PySem.W.findIn K (.ref C_Book) "_take_up_to" = some (some (.ref f21)))
    (l21 : K.lookup f21 = some ⟨oc21, od21, .func (PySem.W.fnOf "_take_up_to" "Book._take_up_to" (C8.fnArgs s_Book__take_up_to) (C8.fnBody s_Book__take_up_to) (C8.fnScope s_Book__take_up_to) .none kV21 dc21 pm21 an21 cd21 ct21), sl21⟩)
    (c21 : PySem.W.codeIn K cd21 "Book._take_up_to" = true)
    (k21 : PySem.W.keepIn K (.ref f21) = true)
    (i21 : PySem.W.isFn K (.ref f21) = true)
    (a22 : PySem.W.findIn K (.ref C_Book) "_is_kept_with" = some (some (.ref f22)))
    (l22 : K.lookup f22 = some ⟨oc22, od22, .func (PySem.W.fnOf "_is_kept_with" "Book._is_kept_with" (C8.fnArgs s_Book__is_kept_with) (C8.fnBody s_Book__is_kept_with) (C8.fnScope s_Book__is_kept_with) .none kV22 dc22 pm22 an22 cd22 ct22), sl22⟩)
    (c22 : PySem.W.codeIn K cd22 "Book._is_kept_with" = true)
    (k22 : PySem.W.keepIn K (.ref f22) = true)
    (i22 : PySem.W.isFn K (.ref f22) = true)
    (aG : PySem.W.nsIn K mainGlobals "GateError" = some (some (.ref cG)))
    (dG : PySem.W.hasDictIn K cG = true)
    (tG : PySem.W.typeIn K (.ref cG) = some (.type "type"))
    (sGB : PySem.W.subIn K (.ref cG) (.type "BaseException") = some true)
    (hn : PySem.W.specialIn K (.builtin "object.__class__") "__get__" = some (some (.builtin "getset_descriptor.__get__")))
    (ht : PySem.W.takesIn K (.builtin "object.__class__") = some true)
    (opq : PySem.W.nsIn K cStatics "thirdparty.any" = some none)
    (tops : (l.prog.main.scope.names.lookup ("super" : Str)).isSome = false)
    (a_0 : PySem.W.nsIn K mainGlobals "NoBound" = some (some (.ref Cx0)))
    (kp_0 : PySem.W.keepIn K (.ref Cx0) = true)
    (hg_0 : PySem.W.findIn K (.ref Cx0) "__getattribute__" = some (some (.builtin "BaseException.__getattribute__")))
    (hk_0 : PySem.W.findIn K (.ref Cx0) "__getattr__" = some none)
    (hs_0 : PySem.W.subIn K (.ref Cx0) (.type "BaseException") = some true)
    (hd_0 : PySem.W.hasDictIn K Cx0 = true)
    (ha_0 : PySem.W.findIn K (.ref Cx0) "__class__" = some (some (.builtin "object.__class__")))
    (hm_0 : PySem.W.mroIn K Cx0 (.type "object") = some true)
    (sg_0 : PySem.W.subIn K (.ref Cx0) (.ref cG) = some true)
    (sv_0 : PySem.W.subIn K (.ref Cx0) (.type "ValueError") = some true)
    (ty_0 : PySem.W.typeIn K (.ref Cx0) = some (.type "type"))
    (x_0 : PySem.W.excIn K Cx0 [.type "ValueError", .type "Exception", .type "BaseException", .type "object"] "ValueError.__new__" = true)
    (a_1 : PySem.W.nsIn K mainGlobals "NoMoment" = some (some (.ref Cx1)))
    (kp_1 : PySem.W.keepIn K (.ref Cx1) = true)
    (hg_1 : PySem.W.findIn K (.ref Cx1) "__getattribute__" = some (some (.builtin "BaseException.__getattribute__")))
    (hk_1 : PySem.W.findIn K (.ref Cx1) "__getattr__" = some none)
    (hs_1 : PySem.W.subIn K (.ref Cx1) (.type "BaseException") = some true)
    (hd_1 : PySem.W.hasDictIn K Cx1 = true)
    (ha_1 : PySem.W.findIn K (.ref Cx1) "__class__" = some (some (.builtin "object.__class__")))
    (hm_1 : PySem.W.mroIn K Cx1 (.type "object") = some true)
    (sg_1 : PySem.W.subIn K (.ref Cx1) (.ref cG) = some true)
    (sv_1 : PySem.W.subIn K (.ref Cx1) (.type "ValueError") = some true)
    (ty_1 : PySem.W.typeIn K (.ref Cx1) = some (.type "type"))
    (x_1 : PySem.W.excIn K Cx1 [.type "ValueError", .type "Exception", .type "BaseException", .type "object"] "ValueError.__new__" = true)
    (a_2 : PySem.W.nsIn K mainGlobals "NoCost" = some (some (.ref Cx2)))
    (kp_2 : PySem.W.keepIn K (.ref Cx2) = true)
    (hg_2 : PySem.W.findIn K (.ref Cx2) "__getattribute__" = some (some (.builtin "BaseException.__getattribute__")))
    (hk_2 : PySem.W.findIn K (.ref Cx2) "__getattr__" = some none)
    (hs_2 : PySem.W.subIn K (.ref Cx2) (.type "BaseException") = some true)
    (hd_2 : PySem.W.hasDictIn K Cx2 = true)
    (ha_2 : PySem.W.findIn K (.ref Cx2) "__class__" = some (some (.builtin "object.__class__")))
    (hm_2 : PySem.W.mroIn K Cx2 (.type "object") = some true)
    (sg_2 : PySem.W.subIn K (.ref Cx2) (.ref cG) = some true)
    (sv_2 : PySem.W.subIn K (.ref Cx2) (.type "ValueError") = some true)
    (ty_2 : PySem.W.typeIn K (.ref Cx2) = some (.type "type"))
    (x_2 : PySem.W.excIn K Cx2 [.type "ValueError", .type "Exception", .type "BaseException", .type "object"] "ValueError.__new__" = true)
    (a_3 : PySem.W.nsIn K mainGlobals "NoPlace" = some (some (.ref Cx3)))
    (kp_3 : PySem.W.keepIn K (.ref Cx3) = true)
    (hg_3 : PySem.W.findIn K (.ref Cx3) "__getattribute__" = some (some (.builtin "BaseException.__getattribute__")))
    (hk_3 : PySem.W.findIn K (.ref Cx3) "__getattr__" = some none)
    (hs_3 : PySem.W.subIn K (.ref Cx3) (.type "BaseException") = some true)
    (hd_3 : PySem.W.hasDictIn K Cx3 = true)
    (ha_3 : PySem.W.findIn K (.ref Cx3) "__class__" = some (some (.builtin "object.__class__")))
    (hm_3 : PySem.W.mroIn K Cx3 (.type "object") = some true)
    (sg_3 : PySem.W.subIn K (.ref Cx3) (.ref cG) = some true)
    (sv_3 : PySem.W.subIn K (.ref Cx3) (.type "ValueError") = some true)
    (ty_3 : PySem.W.typeIn K (.ref Cx3) = some (.type "type"))
    (x_3 : PySem.W.excIn K Cx3 [.type "ValueError", .type "Exception", .type "BaseException", .type "object"] "ValueError.__new__" = true)
    (a_4 : PySem.W.nsIn K mainGlobals "NoVisit" = some (some (.ref Cx4)))
    (kp_4 : PySem.W.keepIn K (.ref Cx4) = true)
    (hg_4 : PySem.W.findIn K (.ref Cx4) "__getattribute__" = some (some (.builtin "BaseException.__getattribute__")))
    (hk_4 : PySem.W.findIn K (.ref Cx4) "__getattr__" = some none)
    (hs_4 : PySem.W.subIn K (.ref Cx4) (.type "BaseException") = some true)
    (hd_4 : PySem.W.hasDictIn K Cx4 = true)
    (ha_4 : PySem.W.findIn K (.ref Cx4) "__class__" = some (some (.builtin "object.__class__")))
    (hm_4 : PySem.W.mroIn K Cx4 (.type "object") = some true)
    (sg_4 : PySem.W.subIn K (.ref Cx4) (.ref cG) = some true)
    (sv_4 : PySem.W.subIn K (.ref Cx4) (.type "ValueError") = some true)
    (ty_4 : PySem.W.typeIn K (.ref Cx4) = some (.type "type"))
    (x_4 : PySem.W.excIn K Cx4 [.type "ValueError", .type "Exception", .type "BaseException", .type "object"] "ValueError.__new__" = true)
    (a_5 : PySem.W.nsIn K mainGlobals "Full" = some (some (.ref Cx5)))
    (kp_5 : PySem.W.keepIn K (.ref Cx5) = true)
    (hg_5 : PySem.W.findIn K (.ref Cx5) "__getattribute__" = some (some (.builtin "BaseException.__getattribute__")))
    (hk_5 : PySem.W.findIn K (.ref Cx5) "__getattr__" = some none)
    (hs_5 : PySem.W.subIn K (.ref Cx5) (.type "BaseException") = some true)
    (hd_5 : PySem.W.hasDictIn K Cx5 = true)
    (ha_5 : PySem.W.findIn K (.ref Cx5) "__class__" = some (some (.builtin "object.__class__")))
    (hm_5 : PySem.W.mroIn K Cx5 (.type "object") = some true)
    (sg_5 : PySem.W.subIn K (.ref Cx5) (.ref cG) = some true)
    (sv_5 : PySem.W.subIn K (.ref Cx5) (.type "ValueError") = some true)
    (ty_5 : PySem.W.typeIn K (.ref Cx5) = some (.type "type"))
    (x_5 : PySem.W.excIn K Cx5 [.type "ValueError", .type "Exception", .type "BaseException", .type "object"] "ValueError.__new__" = true)
    (a_6 : PySem.W.nsIn K mainGlobals "Broken" = some (some (.ref Cx6)))
    (kp_6 : PySem.W.keepIn K (.ref Cx6) = true)
    (hg_6 : PySem.W.findIn K (.ref Cx6) "__getattribute__" = some (some (.builtin "BaseException.__getattribute__")))
    (hk_6 : PySem.W.findIn K (.ref Cx6) "__getattr__" = some none)
    (hs_6 : PySem.W.subIn K (.ref Cx6) (.type "BaseException") = some true)
    (hd_6 : PySem.W.hasDictIn K Cx6 = true)
    (ha_6 : PySem.W.findIn K (.ref Cx6) "__class__" = some (some (.builtin "object.__class__")))
    (hm_6 : PySem.W.mroIn K Cx6 (.type "object") = some true)
    (sg_6 : PySem.W.subIn K (.ref Cx6) (.ref cG) = some true)
    (sv_6 : PySem.W.subIn K (.ref Cx6) (.type "ValueError") = some true)
    (ty_6 : PySem.W.typeIn K (.ref Cx6) = some (.type "type"))
    (s_0_0 : PySem.W.subIn K (.ref Cx0) (.ref Cx0) = some true)
    (s_0_1 : PySem.W.subIn K (.ref Cx0) (.ref Cx1) = some false)
    (s_0_2 : PySem.W.subIn K (.ref Cx0) (.ref Cx2) = some false)
    (s_0_3 : PySem.W.subIn K (.ref Cx0) (.ref Cx3) = some false)
    (s_0_4 : PySem.W.subIn K (.ref Cx0) (.ref Cx4) = some false)
    (s_0_5 : PySem.W.subIn K (.ref Cx0) (.ref Cx5) = some false)
    (s_0_6 : PySem.W.subIn K (.ref Cx0) (.ref Cx6) = some false)
    (s_1_0 : PySem.W.subIn K (.ref Cx1) (.ref Cx0) = some false)
    (s_1_1 : PySem.W.subIn K (.ref Cx1) (.ref Cx1) = some true)
    (s_1_2 : PySem.W.subIn K (.ref Cx1) (.ref Cx2) = some false)
    (s_1_3 : PySem.W.subIn K (.ref Cx1) (.ref Cx3) = some false)
    (s_1_4 : PySem.W.subIn K (.ref Cx1) (.ref Cx4) = some false)
    (s_1_5 : PySem.W.subIn K (.ref Cx1) (.ref Cx5) = some false)
    (s_1_6 : PySem.W.subIn K (.ref Cx1) (.ref Cx6) = some false)
    (s_2_0 : PySem.W.subIn K (.ref Cx2) (.ref Cx0) = some false)
    (s_2_1 : PySem.W.subIn K (.ref Cx2) (.ref Cx1) = some false)
    (s_2_2 : PySem.W.subIn K (.ref Cx2) (.ref Cx2) = some true)
    (s_2_3 : PySem.W.subIn K (.ref Cx2) (.ref Cx3) = some false)
    (s_2_4 : PySem.W.subIn K (.ref Cx2) (.ref Cx4) = some false)
    (s_2_5 : PySem.W.subIn K (.ref Cx2) (.ref Cx5) = some false)
    (s_2_6 : PySem.W.subIn K (.ref Cx2) (.ref Cx6) = some false)
    (s_3_0 : PySem.W.subIn K (.ref Cx3) (.ref Cx0) = some false)
    (s_3_1 : PySem.W.subIn K (.ref Cx3) (.ref Cx1) = some false)
    (s_3_2 : PySem.W.subIn K (.ref Cx3) (.ref Cx2) = some false)
    (s_3_3 : PySem.W.subIn K (.ref Cx3) (.ref Cx3) = some true)
    (s_3_4 : PySem.W.subIn K (.ref Cx3) (.ref Cx4) = some false)
    (s_3_5 : PySem.W.subIn K (.ref Cx3) (.ref Cx5) = some false)
    (s_3_6 : PySem.W.subIn K (.ref Cx3) (.ref Cx6) = some false)
    (s_4_0 : PySem.W.subIn K (.ref Cx4) (.ref Cx0) = some false)
    (s_4_1 : PySem.W.subIn K (.ref Cx4) (.ref Cx1) = some false)
    (s_4_2 : PySem.W.subIn K (.ref Cx4) (.ref Cx2) = some false)
    (s_4_3 : PySem.W.subIn K (.ref Cx4) (.ref Cx3) = some false)
    (s_4_4 : PySem.W.subIn K (.ref Cx4) (.ref Cx4) = some true)
    (s_4_5 : PySem.W.subIn K (.ref Cx4) (.ref Cx5) = some false)
    (s_4_6 : PySem.W.subIn K (.ref Cx4) (.ref Cx6) = some false)
    (s_5_0 : PySem.W.subIn K (.ref Cx5) (.ref Cx0) = some false)
    (s_5_1 : PySem.W.subIn K (.ref Cx5) (.ref Cx1) = some false)
    (s_5_2 : PySem.W.subIn K (.ref Cx5) (.ref Cx2) = some false)
    (s_5_3 : PySem.W.subIn K (.ref Cx5) (.ref Cx3) = some false)
    (s_5_4 : PySem.W.subIn K (.ref Cx5) (.ref Cx4) = some false)
    (s_5_5 : PySem.W.subIn K (.ref Cx5) (.ref Cx5) = some true)
    (s_5_6 : PySem.W.subIn K (.ref Cx5) (.ref Cx6) = some false)
    (s_6_0 : PySem.W.subIn K (.ref Cx6) (.ref Cx0) = some false)
    (s_6_1 : PySem.W.subIn K (.ref Cx6) (.ref Cx1) = some false)
    (s_6_2 : PySem.W.subIn K (.ref Cx6) (.ref Cx2) = some false)
    (s_6_3 : PySem.W.subIn K (.ref Cx6) (.ref Cx3) = some false)
    (s_6_4 : PySem.W.subIn K (.ref Cx6) (.ref Cx4) = some false)
    (s_6_5 : PySem.W.subIn K (.ref Cx6) (.ref Cx5) = some false)
    (s_6_6 : PySem.W.subIn K (.ref Cx6) (.ref Cx6) = some true)
    (kl_6 : K.lookup Cx6 = some (excClassObj nm_6 qn_6 Cx6 Nn_6 bs_6 bm_6 true sn_6 sub_6 ab_6 col_6 dd_6 k0_6 k1_6 k2_6 k3_6 k5_6 "ValueError.__new__"))
    (rv_6 : PySem.HandSPX.refsVE bm_6 = true)
    (sa_6 : PySem.W.findIn K (.ref Cx6) "__setattr__" = some (some (.builtin "object.__setattr__")))
    (ii_6 : PySem.W.findIn K (.ref Cx6) "__init__" = some (some (.ref f_6)))
    (it_6 : PySem.W.typeIn K (.ref f_6) = some (.type "function"))
    (lf_6 : K.lookup f_6 = some ⟨oc_6, od_6, .func (PySem.W.fnX "__init__" "Broken.__init__" (C8.fnArgs s_Broken_init) (C8.fnBody s_Broken_init) (C8.fnScope s_Broken_init) [("__class__", cc_6)] .none kV_6 dc_6 pm_6 an_6 (.ref cda_6) ct_6), sl_6⟩)
    (co_6 : PySem.W.codeIn K (.ref cda_6) "Broken.__init__" = true)
    (ce_6 : K.lookup cc_6 = some ⟨cl_6, cld_6, .cell (some (.ref Cx6)), csl_6⟩)
    (cf_6 : K.lookup cda_6 = some ⟨ccl_6, cdd_6, .fields vs_6, ccs_6⟩)
    (v2_6 : (vs_6[2]? : Option Value) = some (.str file_6 tf_6))
    (fi_6 : ((l.prog.main.file : Str) == file_6) = true)
    (me_6 : PySem.W.mroIn K Cx6 (.ref Cx6) = some true)
    (su_6 : PySem.W.ks_superIn K Cx6 Cx6 "__init__" = some (some (.builtin "ValueError.__init__")))
    (n6_k : PySem.W.findIn K (.ref Cx6) "k" = some none)
    (n6_stretch : PySem.W.findIn K (.ref Cx6) "stretch" = some none)
    (haJ : PySem.W.findIn K (.ref C_Jar) "__class__" = some (some (.builtin "object.__class__")))
    (hmJ : PySem.W.mroIn K C_Jar (.type "object") = some true)
    (haW : PySem.W.findIn K (.ref C_Window) "__class__" = some (some (.builtin "object.__class__")))
    (hmW : PySem.W.mroIn K C_Window (.type "object") = some true)
    (tJ : PySem.W.typeIn K (.ref C_Jar) = some (.type "type"))
    (tW : PySem.W.typeIn K (.ref C_Window) = some (.type "type"))
    (wjs : PySem.W.subIn K (.ref C_Window) (.ref C_Jar) = some false)
    (wws : PySem.W.subIn K (.ref C_Window) (.ref C_Window) = some true)
    (a23 : PySem.W.nsIn K mainGlobals "is_within" = some (some (.ref f23)))
    (l23 : K.lookup f23 = some ⟨oc23, od23, .func (PySem.W.fnOf "is_within" "is_within" (C8.fnArgs s_is_within) (C8.fnBody s_is_within) (C8.fnScope s_is_within) .none kV23 dc23 pm23 an23 cd23 ct23), sl23⟩)
    (c23 : PySem.W.codeIn K cd23 "is_within" = true)
    (k23 : PySem.W.keepIn K (.ref f23) = true)
    (a24 : PySem.W.nsIn K mainGlobals "_place_reaching" = some (some (.ref f24)))
    (l24 : K.lookup f24 = some ⟨oc24, od24, .func (PySem.W.fnOf "_place_reaching" "_place_reaching" (C8.fnArgs s_place_reaching) (C8.fnBody s_place_reaching) (C8.fnScope s_place_reaching) .none kV24 dc24 pm24 an24 cd24 ct24), sl24⟩)
    (c24 : PySem.W.codeIn K cd24 "_place_reaching" = true)
    (k24 : PySem.W.keepIn K (.ref f24) = true)
    (a25 : PySem.W.nsIn K mainGlobals "new_meters" = some (some (.ref f25)))
    (l25 : K.lookup f25 = some ⟨oc25, od25, .func (PySem.W.fnOf "new_meters" "new_meters" (C8.fnArgs s_new_meters) (C8.fnBody s_new_meters) (C8.fnScope s_new_meters) .none kV25 dc25 pm25 an25 cd25 ct25), sl25⟩)
    (c25 : PySem.W.codeIn K cd25 "new_meters" = true)
    (k25 : PySem.W.keepIn K (.ref f25) = true)
    (a26 : PySem.W.nsIn K mainGlobals "wait_for_all" = some (some (.ref f26)))
    (l26 : K.lookup f26 = some ⟨oc26, od26, .func (PySem.W.fnOf "wait_for_all" "wait_for_all" (C8.fnArgs s_wait_for_all) (C8.fnBody s_wait_for_all) (C8.fnScope s_wait_for_all) .none kV26 dc26 pm26 an26 cd26 ct26), sl26⟩)
    (c26 : PySem.W.codeIn K cd26 "wait_for_all" = true)
    (k26 : PySem.W.keepIn K (.ref f26) = true)
    (a27 : PySem.W.nsIn K mainGlobals "take_by_all" = some (some (.ref f27)))
    (l27 : K.lookup f27 = some ⟨oc27, od27, .func (PySem.W.fnOf "take_by_all" "take_by_all" (C8.fnArgs s_take_by_all) (C8.fnBody s_take_by_all) (C8.fnScope s_take_by_all) .none kV27 dc27 pm27 an27 cd27 ct27), sl27⟩)
    (c27 : PySem.W.codeIn K cd27 "take_by_all" = true)
    (k27 : PySem.W.keepIn K (.ref f27) = true)
    (a28 : PySem.W.nsIn K mainGlobals "_totals_ahead" = some (some (.ref f28)))
    (l28 : K.lookup f28 = some ⟨oc28, od28, .func (PySem.W.fnOf "_totals_ahead" "_totals_ahead" (C8.fnArgs s_totals_ahead) (C8.fnBody s_totals_ahead) (C8.fnScope s_totals_ahead) .none kV28 dc28 pm28 an28 cd28 ct28), sl28⟩)
    (c28 : PySem.W.codeIn K cd28 "_totals_ahead" = true)
    (k28 : PySem.W.keepIn K (.ref f28) = true)
    (a29 : PySem.W.nsIn K mainGlobals "_first_start" = some (some (.ref f29)))
    (l29 : K.lookup f29 = some ⟨oc29, od29, .func (PySem.W.fnOf "_first_start" "_first_start" (C8.fnArgs s_first_start) (C8.fnBody s_first_start) (C8.fnScope s_first_start) .none kV29 dc29 pm29 an29 cd29 ct29), sl29⟩)
    (c29 : PySem.W.codeIn K cd29 "_first_start" = true)
    (k29 : PySem.W.keepIn K (.ref f29) = true)
    (a30 : PySem.W.nsIn K mainGlobals "broken" = some (some (.ref f30)))
    (l30 : K.lookup f30 = some ⟨oc30, od30, .func (PySem.W.fnOf "broken" "broken" (C8.fnArgs s_broken) (C8.fnBody s_broken) (C8.fnScope s_broken) .none kV30 dc30 pm30 an30 cd30 ct30), sl30⟩)
    (c30 : PySem.W.codeIn K cd30 "broken" = true)
    (k30 : PySem.W.keepIn K (.ref f30) = true)
    (a31 : PySem.W.nsIn K mainGlobals "check_bound" = some (some (.ref f31)))
    (l31 : K.lookup f31 = some ⟨oc31, od31, .func (PySem.W.fnOf "check_bound" "check_bound" (C8.fnArgs s_check_bound) (C8.fnBody s_check_bound) (C8.fnScope s_check_bound) .none kV31 dc31 pm31 an31 cd31 ct31), sl31⟩)
    (c31 : PySem.W.codeIn K cd31 "check_bound" = true)
    (k31 : PySem.W.keepIn K (.ref f31) = true)
    (a32 : PySem.W.nsIn K mainGlobals "copied_bounds" = some (some (.ref f32)))
    (l32 : K.lookup f32 = some ⟨oc32, od32, .func (PySem.W.fnOf "copied_bounds" "copied_bounds" (C8.fnArgs s_copied_bounds) (C8.fnBody s_copied_bounds) (C8.fnScope s_copied_bounds) .none kV32 dc32 pm32 an32 cd32 ct32), sl32⟩)
    (c32 : PySem.W.codeIn K cd32 "copied_bounds" = true)
    (k32 : PySem.W.keepIn K (.ref f32) = true)
    (a33 : PySem.W.nsIn K mainGlobals "check_moment" = some (some (.ref f33)))
    (l33 : K.lookup f33 = some ⟨oc33, od33, .func (PySem.W.fnOf "check_moment" "check_moment" (C8.fnArgs s_check_moment) (C8.fnBody s_check_moment) (C8.fnScope s_check_moment) .none kV33 dc33 pm33 an33 cd33 ct33), sl33⟩)
    (c33 : PySem.W.codeIn K cd33 "check_moment" = true)
    (k33 : PySem.W.keepIn K (.ref f33) = true)
    (a34 : PySem.W.nsIn K mainGlobals "check_cost" = some (some (.ref f34)))
    (l34 : K.lookup f34 = some ⟨oc34, od34, .func (PySem.W.fnOf "check_cost" "check_cost" (C8.fnArgs s_check_cost) (C8.fnBody s_check_cost) (C8.fnScope s_check_cost) .none kV34 dc34 pm34 an34 cd34 ct34), sl34⟩)
    (c34 : PySem.W.codeIn K cd34 "check_cost" = true)
    (k34 : PySem.W.keepIn K (.ref f34) = true)
    (a35 : PySem.W.nsIn K mainGlobals "_row_with" = some (some (.ref f35)))
    (l35 : K.lookup f35 = some ⟨oc35, od35, .func (PySem.W.fnOf "_row_with" "_row_with" (C8.fnArgs s_row_with) (C8.fnBody s_row_with) (C8.fnScope s_row_with) .none kV35 dc35 pm35 an35 cd35 ct35), sl35⟩)
    (c35 : PySem.W.codeIn K cd35 "_row_with" = true)
    (k35 : PySem.W.keepIn K (.ref f35) = true)
    (a36 : PySem.W.nsIn K mainGlobals "_check_keeps" = some (some (.ref f36)))
    (l36 : K.lookup f36 = some ⟨oc36, od36, .func (PySem.W.fnOf "_check_keeps" "_check_keeps" (C8.fnArgs s_check_keeps) (C8.fnBody s_check_keeps) (C8.fnScope s_check_keeps) .none kV36 dc36 pm36 an36 cd36 ct36), sl36⟩)
    (c36 : PySem.W.codeIn K cd36 "_check_keeps" = true)
    (k36 : PySem.W.keepIn K (.ref f36) = true)
    (a37 : PySem.W.nsIn K mainGlobals "_law_cell" = some (some (.ref f37)))
    (l37 : K.lookup f37 = some ⟨oc37, od37, .func (PySem.W.fnOf "_law_cell" "_law_cell" (C8.fnArgs s_Lcell) (C8.fnBody s_Lcell) (C8.fnScope s_Lcell) .none kV37 dc37 pm37 an37 cd37 ct37), sl37⟩)
    (c37 : PySem.W.codeIn K cd37 "_law_cell" = true)
    (k37 : PySem.W.keepIn K (.ref f37) = true)
    (a38 : PySem.W.nsIn K mainGlobals "_law_bound" = some (some (.ref f38)))
    (l38 : K.lookup f38 = some ⟨oc38, od38, .func (PySem.W.fnOf "_law_bound" "_law_bound" (C8.fnArgs s_Lbound) (C8.fnBody s_Lbound) (C8.fnScope s_Lbound) .none kV38 dc38 pm38 an38 cd38 ct38), sl38⟩)
    (c38 : PySem.W.codeIn K cd38 "_law_bound" = true)
    (k38 : PySem.W.keepIn K (.ref f38) = true)
    (a39 : PySem.W.nsIn K mainGlobals "_law_made" = some (some (.ref f39)))
    (l39 : K.lookup f39 = some ⟨oc39, od39, .func (PySem.W.fnOf "_law_made" "_law_made" (C8.fnArgs s_Lmade) (C8.fnBody s_Lmade) (C8.fnScope s_Lmade) .none kV39 dc39 pm39 an39 cd39 ct39), sl39⟩)
    (c39 : PySem.W.codeIn K cd39 "_law_made" = true)
    (k39 : PySem.W.keepIn K (.ref f39) = true)
    (a40 : PySem.W.nsIn K mainGlobals "_law_room" = some (some (.ref f40)))
    (l40 : K.lookup f40 = some ⟨oc40, od40, .func (PySem.W.fnOf "_law_room" "_law_room" (C8.fnArgs s_Lroom) (C8.fnBody s_Lroom) (C8.fnScope s_Lroom) .none kV40 dc40 pm40 an40 cd40 ct40), sl40⟩)
    (c40 : PySem.W.codeIn K cd40 "_law_room" = true)
    (k40 : PySem.W.keepIn K (.ref f40) = true)
    (a41 : PySem.W.nsIn K mainGlobals "_law_first" = some (some (.ref f41)))
    (l41 : K.lookup f41 = some ⟨oc41, od41, .func (PySem.W.fnOf "_law_first" "_law_first" (C8.fnArgs s_Lfirst) (C8.fnBody s_Lfirst) (C8.fnScope s_Lfirst) .none kV41 dc41 pm41 an41 cd41 ct41), sl41⟩)
    (c41 : PySem.W.codeIn K cd41 "_law_first" = true)
    (k41 : PySem.W.keepIn K (.ref f41) = true)
    (a42 : PySem.W.nsIn K mainGlobals "_law_breaks" = some (some (.ref f42)))
    (l42 : K.lookup f42 = some ⟨oc42, od42, .func (PySem.W.fnOf "_law_breaks" "_law_breaks" (C8.fnArgs s_Lbreaks) (C8.fnBody s_Lbreaks) (C8.fnScope s_Lbreaks) .none kV42 dc42 pm42 an42 cd42 ct42), sl42⟩)
    (c42 : PySem.W.codeIn K cd42 "_law_breaks" = true)
    (k42 : PySem.W.keepIn K (.ref f42) = true)
    (a43 : PySem.W.nsIn K mainGlobals "_law_with" = some (some (.ref f43)))
    (l43 : K.lookup f43 = some ⟨oc43, od43, .func (PySem.W.fnOf "_law_with" "_law_with" (C8.fnArgs s_Lwith) (C8.fnBody s_Lwith) (C8.fnScope s_Lwith) .none kV43 dc43 pm43 an43 cd43 ct43), sl43⟩)
    (c43 : PySem.W.codeIn K cd43 "_law_with" = true)
    (k43 : PySem.W.keepIn K (.ref f43) = true)
    (a44 : PySem.W.nsIn K mainGlobals "_law_cost" = some (some (.ref f44)))
    (l44 : K.lookup f44 = some ⟨oc44, od44, .func (PySem.W.fnOf "_law_cost" "_law_cost" (C8.fnArgs s_Lcost) (C8.fnBody s_Lcost) (C8.fnScope s_Lcost) .none kV44 dc44 pm44 an44 cd44 ct44), sl44⟩)
    (c44 : PySem.W.codeIn K cd44 "_law_cost" = true)
    (k44 : PySem.W.keepIn K (.ref f44) = true)
    (a45 : PySem.W.nsIn K mainGlobals "_law_scale" = some (some (.ref f45)))
    (l45 : K.lookup f45 = some ⟨oc45, od45, .func (PySem.W.fnOf "_law_scale" "_law_scale" (C8.fnArgs s_Lscale) (C8.fnBody s_Lscale) (C8.fnScope s_Lscale) .none kV45 dc45 pm45 an45 cd45 ct45), sl45⟩)
    (c45 : PySem.W.codeIn K cd45 "_law_scale" = true)
    (k45 : PySem.W.keepIn K (.ref f45) = true)
    (a46 : PySem.W.nsIn K mainGlobals "_law_begins" = some (some (.ref f46)))
    (l46 : K.lookup f46 = some ⟨oc46, od46, .func (PySem.W.fnOf "_law_begins" "_law_begins" (C8.fnArgs s_Lbegins) (C8.fnBody s_Lbegins) (C8.fnScope s_Lbegins) .none kV46 dc46 pm46 an46 cd46 ct46), sl46⟩)
    (c46 : PySem.W.codeIn K cd46 "_law_begins" = true)
    (k46 : PySem.W.keepIn K (.ref f46) = true)
    (a47 : PySem.W.nsIn K mainGlobals "_law_earliest" = some (some (.ref f47)))
    (l47 : K.lookup f47 = some ⟨oc47, od47, .func (PySem.W.fnOf "_law_earliest" "_law_earliest" (C8.fnArgs s_Learliest) (C8.fnBody s_Learliest) (C8.fnScope s_Learliest) .none kV47 dc47 pm47 an47 cd47 ct47), sl47⟩)
    (c47 : PySem.W.codeIn K cd47 "_law_earliest" = true)
    (k47 : PySem.W.keepIn K (.ref f47) = true)
    (a48 : PySem.W.nsIn K mainGlobals "_law_one_by_one" = some (some (.ref f48)))
    (l48 : K.lookup f48 = some ⟨oc48, od48, .func (PySem.W.fnOf "_law_one_by_one" "_law_one_by_one" (C8.fnArgs s_Lone_by_one) (C8.fnBody s_Lone_by_one) (C8.fnScope s_Lone_by_one) .none kV48 dc48 pm48 an48 cd48 ct48), sl48⟩)
    (c48 : PySem.W.codeIn K cd48 "_law_one_by_one" = true)
    (k48 : PySem.W.keepIn K (.ref f48) = true)
    (a49 : PySem.W.nsIn K mainGlobals "_law_asked" = some (some (.ref f49)))
    (l49 : K.lookup f49 = some ⟨oc49, od49, .func (PySem.W.fnOf "_law_asked" "_law_asked" (C8.fnArgs s_Lasked) (C8.fnBody s_Lasked) (C8.fnScope s_Lasked) .none kV49 dc49 pm49 an49 cd49 ct49), sl49⟩)
    (c49 : PySem.W.codeIn K cd49 "_law_asked" = true)
    (k49 : PySem.W.keepIn K (.ref f49) = true)
    (a50 : PySem.W.nsIn K mainGlobals "_law_put" = some (some (.ref f50)))
    (l50 : K.lookup f50 = some ⟨oc50, od50, .func (PySem.W.fnOf "_law_put" "_law_put" (C8.fnArgs s_Lput) (C8.fnBody s_Lput) (C8.fnScope s_Lput) .none kV50 dc50 pm50 an50 cd50 ct50), sl50⟩)
    (c50 : PySem.W.codeIn K cd50 "_law_put" = true)
    (k50 : PySem.W.keepIn K (.ref f50) = true)
    (a51 : PySem.W.nsIn K mainGlobals "_law_wide" = some (some (.ref f51)))
    (l51 : K.lookup f51 = some ⟨oc51, od51, .func (PySem.W.fnOf "_law_wide" "_law_wide" (C8.fnArgs s_Lwide) (C8.fnBody s_Lwide) (C8.fnScope s_Lwide) .none kV51 dc51 pm51 an51 cd51 ct51), sl51⟩)
    (c51 : PySem.W.codeIn K cd51 "_law_wide" = true)
    (k51 : PySem.W.keepIn K (.ref f51) = true)
    (a52 : PySem.W.nsIn K mainGlobals "_law_changed" = some (some (.ref f52)))
    (l52 : K.lookup f52 = some ⟨oc52, od52, .func (PySem.W.fnOf "_law_changed" "_law_changed" (C8.fnArgs s_Lchanged) (C8.fnBody s_Lchanged) (C8.fnScope s_Lchanged) .none kV52 dc52 pm52 an52 cd52 ct52), sl52⟩)
    (c52 : PySem.W.codeIn K cd52 "_law_changed" = true)
    (k52 : PySem.W.keepIn K (.ref f52) = true)
    (a53 : PySem.W.nsIn K mainGlobals "_law_ends" = some (some (.ref f53)))
    (l53 : K.lookup f53 = some ⟨oc53, od53, .func (PySem.W.fnOf "_law_ends" "_law_ends" (C8.fnArgs s_Lends) (C8.fnBody s_Lends) (C8.fnScope s_Lends) .none kV53 dc53 pm53 an53 cd53 ct53), sl53⟩)
    (c53 : PySem.W.codeIn K cd53 "_law_ends" = true)
    (k53 : PySem.W.keepIn K (.ref f53) = true)
    (a54 : PySem.W.nsIn K mainGlobals "law" = some (some (.ref f54)))
    (l54 : K.lookup f54 = some ⟨oc54, od54, .func (PySem.W.fnOf "law" "law" (C8.fnArgs s_law) (C8.fnBody s_law) (C8.fnScope s_law) .none kV54 dc54 pm54 an54 cd54 ct54), sl54⟩)
    (c54 : PySem.W.codeIn K cd54 "law" = true)
    (k54 : PySem.W.keepIn K (.ref f54) = true)
    (hcB : cd30 = Value.ref cB)
    (lcB : K.lookup cB = some ⟨eB, ddB, .fields vsB, slB⟩)
    (vB : vsB[11]? = some (Value.ref P0))
    (nB : K.lookup P0 = none) :
    ∃ (fd : FuncData) (cB P0 : Addr), PySem.W.tabIn K "broken" = some (cB, P0) ∧ K.lookup P0 = none ∧ (∀ (s : Shared) (v : Value), BindsTo s fd ⟨[v], []⟩ [("_law_script", v)]) ∧ ∀ base : Heap, K.In base → base.Ns mainGlobals mg → LamX.TabB base mg cB P0 → FnOk l.prog w K mg base C8.CX0 9 fa fd ["_law_script"] (spLaw10 [(P0, fun _ _ => qE)] K) := by
  have e : f54 = fa := by
    have e := (PySem.W.mg_of X G a54).symm.trans hfa
    injection e with e
    injection e
  subst e
  have T : Blt mg := ⟨PySem.W.mg_none_of X G z_len, PySem.W.mg_none_of X G z_range, PySem.W.mg_none_of X G z_max, PySem.W.mg_none_of X G z_min, PySem.W.mg_none_of X G z_int, PySem.W.mg_none_of X G z_bool, PySem.W.mg_none_of X G z_tuple, PySem.W.mg_none_of X G z_list, PySem.W.mg_none_of X G z_isinstance, PySem.W.mg_none_of X G z_enumerate, PySem.W.mg_none_of X G z_super, PySem.W.mg_none_of X G z_reversed, PySem.W.mg_none_of X G z_all, PySem.W.mg_none_of X G z_sorted, PySem.W.mg_none_of X G z_set⟩
  have Gc : Cst mg := ⟨⟨_, PySem.W.mg_of X G g_LARGEST_SIZE, ⟨_, rfl⟩⟩, ⟨_, PySem.W.mg_of X G g_LARGEST_FLOW, ⟨_, rfl⟩⟩, ⟨_, PySem.W.mg_of X G g_LARGEST_MOST, ⟨_, rfl⟩⟩, ⟨_, PySem.W.mg_of X G g_LARGEST_SPAN, ⟨_, rfl⟩⟩, ⟨_, PySem.W.mg_of X G g_MOST_BOUNDS, ⟨_, rfl⟩⟩, ⟨_, PySem.W.mg_of X G g_LARGEST_MOMENT, ⟨_, rfl⟩⟩, ⟨_, PySem.W.mg_of X G g_LARGEST_COST, ⟨_, rfl⟩⟩, ⟨_, PySem.W.mg_of X G g_MOST_VISITS, ⟨_, rfl⟩⟩⟩
  have cl_JarMeter : Cls K C_JarMeter := ⟨pg_JarMeter, hd_JarMeter, po_JarMeter, sa_JarMeter⟩
  have kl_JarMeter : ClJM K C_JarMeter := ⟨cl_JarMeter, n_JarMeter_0, n_JarMeter_1, n_JarMeter_2, n_JarMeter_3⟩
  have F1 : C8.Fun K "__init__" "JarMeter.__init__" s_JarMeter_init f1 _ := ⟨⟨oc1, od1, .none, kV1, dc1, pm1, an1, cd1, ct1, sl1, rfl, l1, c1⟩⟩
  have b1 : Binds K _ ["self", "size", "flow"] [] := F1.binds rfl (ps := ["self", "size", "flow"]) fun _ _ _ _ _ _ us hl => match us, hl with | [_, _, _], _ => rfl
  have M_JarMeter : Mk K C_JarMeter f1 := ⟨mk_JarMeter, a1, i1, kc_JarMeter⟩
  have mg_JarMeter := PySem.W.mg_of X G aC_JarMeter
  have fn_JarMeter_init := F1
  have bi_JarMeter_init := b1
  have F2 : C8.Fun K "wait" "JarMeter.wait" s_JarMeter_wait f2 _ := ⟨⟨oc2, od2, .none, kV2, dc2, pm2, an2, cd2, ct2, sl2, rfl, l2, c2⟩⟩
  have b2 : Binds K _ ["self", "moment", "cost"] [] := F2.binds rfl (ps := ["self", "moment", "cost"]) fun _ _ _ _ _ _ us hl => match us, hl with | [_, _, _], _ => rfl
  have me_JarMeter_wait : Meth K C_JarMeter "wait" f2 := ⟨a2, i2, k2⟩
  have fn_JarMeter_wait := F2
  have bi_JarMeter_wait := b2
  have F3 : C8.Fun K "take" "JarMeter.take" s_JarMeter_take f3 _ := ⟨⟨oc3, od3, .none, kV3, dc3, pm3, an3, cd3, ct3, sl3, rfl, l3, c3⟩⟩
  have b3 : Binds K _ ["self", "moment", "cost"] [] := F3.binds rfl (ps := ["self", "moment", "cost"]) fun _ _ _ _ _ _ us hl => match us, hl with | [_, _, _], _ => rfl
  have me_JarMeter_take : Meth K C_JarMeter "take" f3 := ⟨a3, i3, k3⟩
  have fn_JarMeter_take := F3
  have bi_JarMeter_take := b3
  have F4 : C8.Fun K "_level_at" "JarMeter._level_at" s_JarMeter__level_at f4 _ := ⟨⟨oc4, od4, .none, kV4, dc4, pm4, an4, cd4, ct4, sl4, rfl, l4, c4⟩⟩
  have b4 : Binds K _ ["self", "moment"] [] := F4.binds rfl (ps := ["self", "moment"]) fun _ _ _ _ _ _ us hl => match us, hl with | [_, _], _ => rfl
  have me_JarMeter__level_at : Meth K C_JarMeter "_level_at" f4 := ⟨a4, i4, k4⟩
  have fn_JarMeter__level_at := F4
  have bi_JarMeter__level_at := b4
  have cl_WindowMeter : Cls K C_WindowMeter := ⟨pg_WindowMeter, hd_WindowMeter, po_WindowMeter, sa_WindowMeter⟩
  have kl_WindowMeter : ClWM K C_WindowMeter := ⟨cl_WindowMeter, n_WindowMeter_0, n_WindowMeter_1, n_WindowMeter_2, n_WindowMeter_3, n_WindowMeter_4⟩
  have F5 : C8.Fun K "__init__" "WindowMeter.__init__" s_WindowMeter_init f5 _ := ⟨⟨oc5, od5, .none, kV5, dc5, pm5, an5, cd5, ct5, sl5, rfl, l5, c5⟩⟩
  have b5 : Binds K _ ["self", "most", "span"] [] := F5.binds rfl (ps := ["self", "most", "span"]) fun _ _ _ _ _ _ us hl => match us, hl with | [_, _, _], _ => rfl
  have M_WindowMeter : Mk K C_WindowMeter f5 := ⟨mk_WindowMeter, a5, i5, kc_WindowMeter⟩
  have mg_WindowMeter := PySem.W.mg_of X G aC_WindowMeter
  have fn_WindowMeter_init := F5
  have bi_WindowMeter_init := b5
  have F6 : C8.Fun K "wait" "WindowMeter.wait" s_WindowMeter_wait f6 _ := ⟨⟨oc6, od6, .none, kV6, dc6, pm6, an6, cd6, ct6, sl6, rfl, l6, c6⟩⟩
  have b6 : Binds K _ ["self", "moment", "cost"] [] := F6.binds rfl (ps := ["self", "moment", "cost"]) fun _ _ _ _ _ _ us hl => match us, hl with | [_, _, _], _ => rfl
  have me_WindowMeter_wait : Meth K C_WindowMeter "wait" f6 := ⟨a6, i6, k6⟩
  have fn_WindowMeter_wait := F6
  have bi_WindowMeter_wait := b6
  have F7 : C8.Fun K "take" "WindowMeter.take" s_WindowMeter_take f7 _ := ⟨⟨oc7, od7, .none, kV7, dc7, pm7, an7, cd7, ct7, sl7, rfl, l7, c7⟩⟩
  have b7 : Binds K _ ["self", "moment", "cost"] [] := F7.binds rfl (ps := ["self", "moment", "cost"]) fun _ _ _ _ _ _ us hl => match us, hl with | [_, _, _], _ => rfl
  have me_WindowMeter_take : Meth K C_WindowMeter "take" f7 := ⟨a7, i7, k7⟩
  have fn_WindowMeter_take := F7
  have bi_WindowMeter_take := b7
  have F8 : C8.Fun K "_forget" "WindowMeter._forget" s_WindowMeter__forget f8 _ := ⟨⟨oc8, od8, .none, kV8, dc8, pm8, an8, cd8, ct8, sl8, rfl, l8, c8⟩⟩
  have b8 : Binds K _ ["self", "moment"] [] := F8.binds rfl (ps := ["self", "moment"]) fun _ _ _ _ _ _ us hl => match us, hl with | [_, _], _ => rfl
  have me_WindowMeter__forget : Meth K C_WindowMeter "_forget" f8 := ⟨a8, i8, k8⟩
  have fn_WindowMeter__forget := F8
  have bi_WindowMeter__forget := b8
  have cl_Jar : Cls K C_Jar := ⟨pg_Jar, hd_Jar, po_Jar, sa_Jar⟩
  have kl_Jar : ClJar K C_Jar := ⟨cl_Jar, n_Jar_0, n_Jar_1⟩
  have F9 : C8.Fun K "__init__" "Jar.__init__" s_Jar_init f9 _ := ⟨⟨oc9, od9, .none, kV9, dc9, pm9, an9, cd9, ct9, sl9, rfl, l9, c9⟩⟩
  have b9 : Binds K _ ["self", "size", "flow"] [] := F9.binds rfl (ps := ["self", "size", "flow"]) fun _ _ _ _ _ _ us hl => match us, hl with | [_, _, _], _ => rfl
  have M_Jar : Mk K C_Jar f9 := ⟨mk_Jar, a9, i9, kc_Jar⟩
  have mg_Jar := PySem.W.mg_of X G aC_Jar
  have fn_Jar_init := F9
  have bi_Jar_init := b9
  have F10 : C8.Fun K "room" "Jar.room" s_Jar_room f10 _ := ⟨⟨oc10, od10, .none, kV10, dc10, pm10, an10, cd10, ct10, sl10, rfl, l10, c10⟩⟩
  have b10 : Binds K _ ["self", "first", "last"] [] := F10.binds rfl (ps := ["self", "first", "last"]) fun _ _ _ _ _ _ us hl => match us, hl with | [_, _, _], _ => rfl
  have me_Jar_room : Meth K C_Jar "room" f10 := ⟨a10, i10, k10⟩
  have fn_Jar_room := F10
  have bi_Jar_room := b10
  have F11 : C8.Fun K "meter" "Jar.meter" s_Jar_meter f11 _ := ⟨⟨oc11, od11, .none, kV11, dc11, pm11, an11, cd11, ct11, sl11, rfl, l11, c11⟩⟩
  have b11 : Binds K _ ["self"] [] := F11.binds rfl (ps := ["self"]) fun _ _ _ _ _ _ us hl => match us, hl with | [_], _ => rfl
  have me_Jar_meter : Meth K C_Jar "meter" f11 := ⟨a11, i11, k11⟩
  have fn_Jar_meter := F11
  have bi_Jar_meter := b11
  have cl_Window : Cls K C_Window := ⟨pg_Window, hd_Window, po_Window, sa_Window⟩
  have kl_Window : ClWin K C_Window := ⟨cl_Window, n_Window_0, n_Window_1⟩
  have F12 : C8.Fun K "__init__" "Window.__init__" s_Window_init f12 _ := ⟨⟨oc12, od12, .none, kV12, dc12, pm12, an12, cd12, ct12, sl12, rfl, l12, c12⟩⟩
  have b12 : Binds K _ ["self", "most", "span"] [] := F12.binds rfl (ps := ["self", "most", "span"]) fun _ _ _ _ _ _ us hl => match us, hl with | [_, _, _], _ => rfl
  have M_Window : Mk K C_Window f12 := ⟨mk_Window, a12, i12, kc_Window⟩
  have mg_Window := PySem.W.mg_of X G aC_Window
  have fn_Window_init := F12
  have bi_Window_init := b12
  have F13 : C8.Fun K "room" "Window.room" s_Window_room f13 _ := ⟨⟨oc13, od13, .none, kV13, dc13, pm13, an13, cd13, ct13, sl13, rfl, l13, c13⟩⟩
  have b13 : Binds K _ ["self", "first", "last"] [] := F13.binds rfl (ps := ["self", "first", "last"]) fun _ _ _ _ _ _ us hl => match us, hl with | [_, _, _], _ => rfl
  have me_Window_room : Meth K C_Window "room" f13 := ⟨a13, i13, k13⟩
  have fn_Window_room := F13
  have bi_Window_room := b13
  have F14 : C8.Fun K "meter" "Window.meter" s_Window_meter f14 _ := ⟨⟨oc14, od14, .none, kV14, dc14, pm14, an14, cd14, ct14, sl14, rfl, l14, c14⟩⟩
  have b14 : Binds K _ ["self"] [] := F14.binds rfl (ps := ["self"]) fun _ _ _ _ _ _ us hl => match us, hl with | [_], _ => rfl
  have me_Window_meter : Meth K C_Window "meter" f14 := ⟨a14, i14, k14⟩
  have fn_Window_meter := F14
  have bi_Window_meter := b14
  have cl_Book : Cls K C_Book := ⟨pg_Book, hd_Book, po_Book, sa_Book⟩
  have kl_Book : ClBk K C_Book := ⟨cl_Book, n_Book_0, n_Book_1⟩
  have F15 : C8.Fun K "__init__" "Book.__init__" s_Book_init f15 _ := ⟨⟨oc15, od15, .none, kV15, dc15, pm15, an15, cd15, ct15, sl15, rfl, l15, c15⟩⟩
  have b15 : Binds K _ ["self", "bounds"] [] := F15.binds rfl (ps := ["self", "bounds"]) fun _ _ _ _ _ _ us hl => match us, hl with | [_, _], _ => rfl
  have M_Book : Mk K C_Book f15 := ⟨mk_Book, a15, i15, kc_Book⟩
  have mg_Book := PySem.W.mg_of X G aC_Book
  have fn_Book_init := F15
  have bi_Book_init := b15
  have F16 : C8.Fun K "visits" "Book.visits" s_Book_visits f16 _ := ⟨⟨oc16, od16, .none, kV16, dc16, pm16, an16, cd16, ct16, sl16, rfl, l16, c16⟩⟩
  have b16 : Binds K _ ["self"] [] := F16.binds rfl (ps := ["self"]) fun _ _ _ _ _ _ us hl => match us, hl with | [_], _ => rfl
  have me_Book_visits : Meth K C_Book "visits" f16 := ⟨a16, i16, k16⟩
  have fn_Book_visits := F16
  have bi_Book_visits := b16
  have F17 : C8.Fun K "put" "Book.put" s_Book_put f17 _ := ⟨⟨oc17, od17, .none, kV17, dc17, pm17, an17, cd17, ct17, sl17, rfl, l17, c17⟩⟩
  have b17 : Binds K _ ["self", "moment", "cost"] [] := F17.binds rfl (ps := ["self", "moment", "cost"]) fun _ _ _ _ _ _ us hl => match us, hl with | [_, _, _], _ => rfl
  have me_Book_put : Meth K C_Book "put" f17 := ⟨a17, i17, k17⟩
  have fn_Book_put := F17
  have bi_Book_put := b17
  have F18 : C8.Fun K "drop" "Book.drop" s_Book_drop f18 _ := ⟨⟨oc18, od18, .none, kV18, dc18, pm18, an18, cd18, ct18, sl18, rfl, l18, c18⟩⟩
  have b18 : Binds K _ ["self", "moment", "cost"] [] := F18.binds rfl (ps := ["self", "moment", "cost"]) fun _ _ _ _ _ _ us hl => match us, hl with | [_, _, _], _ => rfl
  have me_Book_drop : Meth K C_Book "drop" f18 := ⟨a18, i18, k18⟩
  have fn_Book_drop := F18
  have bi_Book_drop := b18
  have F19 : C8.Fun K "change" "Book.change" s_Book_change f19 _ := ⟨⟨oc19, od19, .none, kV19, dc19, pm19, an19, cd19, ct19, sl19, rfl, l19, c19⟩⟩
  have b19 : Binds K _ ["self", "k", "bound"] [] := F19.binds rfl (ps := ["self", "k", "bound"]) fun _ _ _ _ _ _ us hl => match us, hl with | [_, _, _], _ => rfl
  have me_Book_change : Meth K C_Book "change" f19 := ⟨a19, i19, k19⟩
  have fn_Book_change := F19
  have bi_Book_change := b19
  have F20 : C8.Fun K "earliest" "Book.earliest" s_Book_earliest f20 _ := ⟨⟨oc20, od20, .none, kV20, dc20, pm20, an20, cd20, ct20, sl20, rfl, l20, c20⟩⟩
  have b20 : Binds K _ ["self", "moment", "cost"] [] := F20.binds rfl (ps := ["self", "moment", "cost"]) fun _ _ _ _ _ _ us hl => match us, hl with | [_, _, _], _ => rfl
  have me_Book_earliest : Meth K C_Book "earliest" f20 := ⟨a20, i20, k20⟩
  have fn_Book_earliest := F20
  have bi_Book_earliest := b20
  have F21 : C8.Fun K "_take_up_to" "Book._take_up_to" s_Book__take_up_to f21 _ := ⟨⟨oc21, od21, .none, kV21, dc21, pm21, an21, cd21, ct21, sl21, rfl, l21, c21⟩⟩
  have b21 : Binds K _ ["self", "meters", "place", "moment"] [] := F21.binds rfl (ps := ["self", "meters", "place", "moment"]) fun _ _ _ _ _ _ us hl => match us, hl with | [_, _, _, _], _ => rfl
  have me_Book__take_up_to : Meth K C_Book "_take_up_to" f21 := ⟨a21, i21, k21⟩
  have fn_Book__take_up_to := F21
  have bi_Book__take_up_to := b21
  have F22 : C8.Fun K "_is_kept_with" "Book._is_kept_with" s_Book__is_kept_with f22 _ := ⟨⟨oc22, od22, .none, kV22, dc22, pm22, an22, cd22, ct22, sl22, rfl, l22, c22⟩⟩
  have b22 : Binds K _ ["self", "moment", "cost"] [] := F22.binds rfl (ps := ["self", "moment", "cost"]) fun _ _ _ _ _ _ us hl => match us, hl with | [_, _, _], _ => rfl
  have me_Book__is_kept_with : Meth K C_Book "_is_kept_with" f22 := ⟨a22, i22, k22⟩
  have fn_Book__is_kept_with := F22
  have bi_Book__is_kept_with := b22
  have R_NoBound : Rs K mg "NoBound" Cx0 := ⟨PySem.W.mg_of X G a_0, x_0, kp_0, hs_0, ty_0⟩
  have R_NoMoment : Rs K mg "NoMoment" Cx1 := ⟨PySem.W.mg_of X G a_1, x_1, kp_1, hs_1, ty_1⟩
  have R_NoCost : Rs K mg "NoCost" Cx2 := ⟨PySem.W.mg_of X G a_2, x_2, kp_2, hs_2, ty_2⟩
  have R_NoPlace : Rs K mg "NoPlace" Cx3 := ⟨PySem.W.mg_of X G a_3, x_3, kp_3, hs_3, ty_3⟩
  have R_NoVisit : Rs K mg "NoVisit" Cx4 := ⟨PySem.W.mg_of X G a_4, x_4, kp_4, hs_4, ty_4⟩
  have R_Full : Rs K mg "Full" Cx5 := ⟨PySem.W.mg_of X G a_5, x_5, kp_5, hs_5, ty_5⟩
  have E_0 : ExcC K Cx0 := ⟨hg_0, hk_0, hs_0, hd_0, ha_0, hn, ht, hm_0⟩
  have E_1 : ExcC K Cx1 := ⟨hg_1, hk_1, hs_1, hd_1, ha_1, hn, ht, hm_1⟩
  have E_2 : ExcC K Cx2 := ⟨hg_2, hk_2, hs_2, hd_2, ha_2, hn, ht, hm_2⟩
  have E_3 : ExcC K Cx3 := ⟨hg_3, hk_3, hs_3, hd_3, ha_3, hn, ht, hm_3⟩
  have E_4 : ExcC K Cx4 := ⟨hg_4, hk_4, hs_4, hd_4, ha_4, hn, ht, hm_4⟩
  have E_5 : ExcC K Cx5 := ⟨hg_5, hk_5, hs_5, hd_5, ha_5, hn, ht, hm_5⟩
  have E_6 : ExcC K Cx6 := ⟨hg_6, hk_6, hs_6, hd_6, ha_6, hn, ht, hm_6⟩
  have ox_6 : OexC K Cx6 := ⟨⟨nm_6, qn_6, Nn_6, bs_6, bm_6, sn_6, sub_6, ab_6, col_6, dd_6, k0_6, k1_6, k2_6, k3_6, k5_6, kl_6, rv_6⟩, sa_6, hs_6, ty_6, kp_6⟩
  have S_6 : SupC K l.prog Cx6 f_6 cc_6 cda_6 := ⟨ox_6, ⟨cl_6, cld_6, csl_6, ce_6⟩, ⟨ccl_6, cdd_6, vs_6, ccs_6, file_6, tf_6, cf_6, v2_6, fi_6⟩, tops, me_6, sv_6, opq, su_6⟩
  have X_Broken : Xf K mg "Broken" Cx6 f_6 _ ["self", "k", "stretch"] := ⟨PySem.W.mg_of X G a_6, ox_6, ii_6, it_6, (.all fun us hl => match us, hl with | [_, _, _], _ => rfl : L2.Binds K (PySem.W.fnX "__init__" "Broken.__init__" (C8.fnArgs s_Broken_init) (C8.fnBody s_Broken_init) (C8.fnScope s_Broken_init) [("__class__", cc_6)] .none kV_6 dc_6 pm_6 an_6 (.ref cda_6) ct_6) ["self", "k", "stretch"] [])⟩
  have kkA : ∀ i j, i < 7 → j < 7 → PySem.W.kitOne K (.ref (([Cx0, Cx1, Cx2, Cx3, Cx4, Cx5, Cx6] : List Addr).getD i 0)) (.ref (([Cx0, Cx1, Cx2, Cx3, Cx4, Cx5, Cx6] : List Addr).getD j 0)) = some (decide (i = j)) := by
    intro i j hi hj
    match i, hi, j, hj with
    | 0, _, 0, _ => exact kit_yes hd_0 ty_0 s_0_0
    | 0, _, 1, _ => exact kit_no hd_1 ty_1 s_0_1 s_0_0
    | 0, _, 2, _ => exact kit_no hd_2 ty_2 s_0_2 s_0_0
    | 0, _, 3, _ => exact kit_no hd_3 ty_3 s_0_3 s_0_0
    | 0, _, 4, _ => exact kit_no hd_4 ty_4 s_0_4 s_0_0
    | 0, _, 5, _ => exact kit_no hd_5 ty_5 s_0_5 s_0_0
    | 0, _, 6, _ => exact kit_no hd_6 ty_6 s_0_6 s_0_0
    | 1, _, 0, _ => exact kit_no hd_0 ty_0 s_1_0 s_1_1
    | 1, _, 1, _ => exact kit_yes hd_1 ty_1 s_1_1
    | 1, _, 2, _ => exact kit_no hd_2 ty_2 s_1_2 s_1_1
    | 1, _, 3, _ => exact kit_no hd_3 ty_3 s_1_3 s_1_1
    | 1, _, 4, _ => exact kit_no hd_4 ty_4 s_1_4 s_1_1
    | 1, _, 5, _ => exact kit_no hd_5 ty_5 s_1_5 s_1_1
    | 1, _, 6, _ => exact kit_no hd_6 ty_6 s_1_6 s_1_1
    | 2, _, 0, _ => exact kit_no hd_0 ty_0 s_2_0 s_2_2
    | 2, _, 1, _ => exact kit_no hd_1 ty_1 s_2_1 s_2_2
    | 2, _, 2, _ => exact kit_yes hd_2 ty_2 s_2_2
    | 2, _, 3, _ => exact kit_no hd_3 ty_3 s_2_3 s_2_2
    | 2, _, 4, _ => exact kit_no hd_4 ty_4 s_2_4 s_2_2
    | 2, _, 5, _ => exact kit_no hd_5 ty_5 s_2_5 s_2_2
    | 2, _, 6, _ => exact kit_no hd_6 ty_6 s_2_6 s_2_2
    | 3, _, 0, _ => exact kit_no hd_0 ty_0 s_3_0 s_3_3
    | 3, _, 1, _ => exact kit_no hd_1 ty_1 s_3_1 s_3_3
    | 3, _, 2, _ => exact kit_no hd_2 ty_2 s_3_2 s_3_3
    | 3, _, 3, _ => exact kit_yes hd_3 ty_3 s_3_3
    | 3, _, 4, _ => exact kit_no hd_4 ty_4 s_3_4 s_3_3
    | 3, _, 5, _ => exact kit_no hd_5 ty_5 s_3_5 s_3_3
    | 3, _, 6, _ => exact kit_no hd_6 ty_6 s_3_6 s_3_3
    | 4, _, 0, _ => exact kit_no hd_0 ty_0 s_4_0 s_4_4
    | 4, _, 1, _ => exact kit_no hd_1 ty_1 s_4_1 s_4_4
    | 4, _, 2, _ => exact kit_no hd_2 ty_2 s_4_2 s_4_4
    | 4, _, 3, _ => exact kit_no hd_3 ty_3 s_4_3 s_4_4
    | 4, _, 4, _ => exact kit_yes hd_4 ty_4 s_4_4
    | 4, _, 5, _ => exact kit_no hd_5 ty_5 s_4_5 s_4_4
    | 4, _, 6, _ => exact kit_no hd_6 ty_6 s_4_6 s_4_4
    | 5, _, 0, _ => exact kit_no hd_0 ty_0 s_5_0 s_5_5
    | 5, _, 1, _ => exact kit_no hd_1 ty_1 s_5_1 s_5_5
    | 5, _, 2, _ => exact kit_no hd_2 ty_2 s_5_2 s_5_5
    | 5, _, 3, _ => exact kit_no hd_3 ty_3 s_5_3 s_5_5
    | 5, _, 4, _ => exact kit_no hd_4 ty_4 s_5_4 s_5_5
    | 5, _, 5, _ => exact kit_yes hd_5 ty_5 s_5_5
    | 5, _, 6, _ => exact kit_no hd_6 ty_6 s_5_6 s_5_5
    | 6, _, 0, _ => exact kit_no hd_0 ty_0 s_6_0 s_6_6
    | 6, _, 1, _ => exact kit_no hd_1 ty_1 s_6_1 s_6_6
    | 6, _, 2, _ => exact kit_no hd_2 ty_2 s_6_2 s_6_6
    | 6, _, 3, _ => exact kit_no hd_3 ty_3 s_6_3 s_6_6
    | 6, _, 4, _ => exact kit_no hd_4 ty_4 s_6_4 s_6_6
    | 6, _, 5, _ => exact kit_no hd_5 ty_5 s_6_5 s_6_6
    | 6, _, 6, _ => exact kit_yes hd_6 ty_6 s_6_6
    | n + 7, h, _, _ => exact absurd h (by omega)
    | _, _, n + 7, h => exact absurd h (by omega)
  have exA : ∀ i, i < 7 → ExcC K (([Cx0, Cx1, Cx2, Cx3, Cx4, Cx5, Cx6] : List Addr).getD i 0) := by
    intro i hi
    match i, hi with
    | 0, _ => exact E_0
    | 1, _ => exact E_1
    | 2, _ => exact E_2
    | 3, _ => exact E_3
    | 4, _ => exact E_4
    | 5, _ => exact E_5
    | 6, _ => exact E_6
    | n + 7, h => exact absurd h (by omega)
  have emA : ∀ i, i < 7 → PySem.W.exmOne K (.ref (([Cx0, Cx1, Cx2, Cx3, Cx4, Cx5, Cx6] : List Addr).getD i 0)) (.ref cG) = some true := by
    intro i hi
    match i, hi with
    | 0, _ => exact PySem.W.exm_ref sGB dG tG sg_0
    | 1, _ => exact PySem.W.exm_ref sGB dG tG sg_1
    | 2, _ => exact PySem.W.exm_ref sGB dG tG sg_2
    | 3, _ => exact PySem.W.exm_ref sGB dG tG sg_3
    | 4, _ => exact PySem.W.exm_ref sGB dG tG sg_4
    | 5, _ => exact PySem.W.exm_ref sGB dG tG sg_5
    | 6, _ => exact PySem.W.exm_ref sGB dG tG sg_6
    | n + 7, h => exact absurd h (by omega)
  have kVA : ∀ i, i < 7 → PySem.W.kitOne K (.ref (([Cx0, Cx1, Cx2, Cx3, Cx4, Cx5, Cx6] : List Addr).getD i 0)) (.type "ValueError") = some true := by
    intro i hi
    match i, hi with
    | 0, _ => exact kit_ve sv_0
    | 1, _ => exact kit_ve sv_1
    | 2, _ => exact kit_ve sv_2
    | 3, _ => exact kit_ve sv_3
    | 4, _ => exact kit_ve sv_4
    | 5, _ => exact kit_ve sv_5
    | 6, _ => exact kit_ve sv_6
    | n + 7, h => exact absurd h (by omega)
  have KR : Kdr K cG (fun i => ([Cx0, Cx1, Cx2, Cx3, Cx4, Cx5, Cx6] : List Addr).getD i 0) 7 := ⟨exA, emA, kVA, kkA⟩
  have GG : Gcl mg cG (fun i => ([Cx0, Cx1, Cx2, Cx3, Cx4, Cx5, Cx6] : List Addr).getD i 0) C_Jar C_Window := ⟨Gc, PySem.W.mg_of X G aG, PySem.W.mg_of X G a_0, PySem.W.mg_of X G a_1, PySem.W.mg_of X G a_2, PySem.W.mg_of X G a_3, PySem.W.mg_of X G a_4, PySem.W.mg_of X G a_5, PySem.W.mg_of X G a_6, PySem.W.mg_of X G aC_Jar, PySem.W.mg_of X G aC_Window⟩
  have BB : BdC K C_Jar C_Window := ⟨cl_Jar, cl_Window, ⟨haJ, hmJ⟩, ⟨haW, hmW⟩, hn, ht, kit_no hd_Jar tJ wjs wws, hd_Jar, hd_Window, tJ, tW⟩
  have F23 : C8.Fun K "is_within" "is_within" s_is_within f23 _ := ⟨⟨oc23, od23, .none, kV23, dc23, pm23, an23, cd23, ct23, sl23, rfl, l23, c23⟩⟩
  have b23 : Binds K _ ["value", "least", "largest"] [] := F23.binds rfl (ps := ["value", "least", "largest"]) fun _ _ _ _ _ _ us hl => match us, hl with | [_, _, _], _ => rfl
  have df_is_within : C8.Def K mg "is_within" s_is_within f23 _ := ⟨F23, PySem.W.mg_of X G a23, k23⟩
  have bi_is_within := b23
  have F24 : C8.Fun K "_place_reaching" "_place_reaching" s_place_reaching f24 _ := ⟨⟨oc24, od24, .none, kV24, dc24, pm24, an24, cd24, ct24, sl24, rfl, l24, c24⟩⟩
  have b24 : Binds K _ ["rows", "total"] [] := F24.binds rfl (ps := ["rows", "total"]) fun _ _ _ _ _ _ us hl => match us, hl with | [_, _], _ => rfl
  have df_place_reaching : C8.Def K mg "_place_reaching" s_place_reaching f24 _ := ⟨F24, PySem.W.mg_of X G a24, k24⟩
  have bi_place_reaching := b24
  have F25 : C8.Fun K "new_meters" "new_meters" s_new_meters f25 _ := ⟨⟨oc25, od25, .none, kV25, dc25, pm25, an25, cd25, ct25, sl25, rfl, l25, c25⟩⟩
  have b25 : Binds K _ ["bounds"] [] := F25.binds rfl (ps := ["bounds"]) fun _ _ _ _ _ _ us hl => match us, hl with | [_], _ => rfl
  have df_new_meters : C8.Def K mg "new_meters" s_new_meters f25 _ := ⟨F25, PySem.W.mg_of X G a25, k25⟩
  have bi_new_meters := b25
  have F26 : C8.Fun K "wait_for_all" "wait_for_all" s_wait_for_all f26 _ := ⟨⟨oc26, od26, .none, kV26, dc26, pm26, an26, cd26, ct26, sl26, rfl, l26, c26⟩⟩
  have b26 : Binds K _ ["meters", "moment", "cost"] [] := F26.binds rfl (ps := ["meters", "moment", "cost"]) fun _ _ _ _ _ _ us hl => match us, hl with | [_, _, _], _ => rfl
  have df_wait_for_all : C8.Def K mg "wait_for_all" s_wait_for_all f26 _ := ⟨F26, PySem.W.mg_of X G a26, k26⟩
  have bi_wait_for_all := b26
  have F27 : C8.Fun K "take_by_all" "take_by_all" s_take_by_all f27 _ := ⟨⟨oc27, od27, .none, kV27, dc27, pm27, an27, cd27, ct27, sl27, rfl, l27, c27⟩⟩
  have b27 : Binds K _ ["meters", "moment", "cost"] [] := F27.binds rfl (ps := ["meters", "moment", "cost"]) fun _ _ _ _ _ _ us hl => match us, hl with | [_, _, _], _ => rfl
  have df_take_by_all : C8.Def K mg "take_by_all" s_take_by_all f27 _ := ⟨F27, PySem.W.mg_of X G a27, k27⟩
  have bi_take_by_all := b27
  have F28 : C8.Fun K "_totals_ahead" "_totals_ahead" s_totals_ahead f28 _ := ⟨⟨oc28, od28, .none, kV28, dc28, pm28, an28, cd28, ct28, sl28, rfl, l28, c28⟩⟩
  have b28 : Binds K _ ["visits"] [] := F28.binds rfl (ps := ["visits"]) fun _ _ _ _ _ _ us hl => match us, hl with | [_], _ => rfl
  have df_totals_ahead : C8.Def K mg "_totals_ahead" s_totals_ahead f28 _ := ⟨F28, PySem.W.mg_of X G a28, k28⟩
  have bi_totals_ahead := b28
  have F29 : C8.Fun K "_first_start" "_first_start" s_first_start f29 _ := ⟨⟨oc29, od29, .none, kV29, dc29, pm29, an29, cd29, ct29, sl29, rfl, l29, c29⟩⟩
  have b29 : Binds K _ ["many", "excess"] [] := F29.binds rfl (ps := ["many", "excess"]) fun _ _ _ _ _ _ us hl => match us, hl with | [_, _], _ => rfl
  have df_first_start : C8.Def K mg "_first_start" s_first_start f29 _ := ⟨F29, PySem.W.mg_of X G a29, k29⟩
  have bi_first_start := b29
  have F30 : C8.Fun K "broken" "broken" s_broken f30 _ := ⟨⟨oc30, od30, .none, kV30, dc30, pm30, an30, cd30, ct30, sl30, rfl, l30, c30⟩⟩
  have b30 : Binds K _ ["bound", "visits"] [] := F30.binds rfl (ps := ["bound", "visits"]) fun _ _ _ _ _ _ us hl => match us, hl with | [_, _], _ => rfl
  have df_broken : C8.Def K mg "broken" s_broken f30 _ := ⟨F30, PySem.W.mg_of X G a30, k30⟩
  have bi_broken := b30
  have F31 : C8.Fun K "check_bound" "check_bound" s_check_bound f31 _ := ⟨⟨oc31, od31, .none, kV31, dc31, pm31, an31, cd31, ct31, sl31, rfl, l31, c31⟩⟩
  have b31 : Binds K _ ["bound"] [] := F31.binds rfl (ps := ["bound"]) fun _ _ _ _ _ _ us hl => match us, hl with | [_], _ => rfl
  have df_check_bound : C8.Def K mg "check_bound" s_check_bound f31 _ := ⟨F31, PySem.W.mg_of X G a31, k31⟩
  have bi_check_bound := b31
  have F32 : C8.Fun K "copied_bounds" "copied_bounds" s_copied_bounds f32 _ := ⟨⟨oc32, od32, .none, kV32, dc32, pm32, an32, cd32, ct32, sl32, rfl, l32, c32⟩⟩
  have b32 : Binds K _ ["bounds"] [] := F32.binds rfl (ps := ["bounds"]) fun _ _ _ _ _ _ us hl => match us, hl with | [_], _ => rfl
  have df_copied_bounds : C8.Def K mg "copied_bounds" s_copied_bounds f32 _ := ⟨F32, PySem.W.mg_of X G a32, k32⟩
  have bi_copied_bounds := b32
  have F33 : C8.Fun K "check_moment" "check_moment" s_check_moment f33 _ := ⟨⟨oc33, od33, .none, kV33, dc33, pm33, an33, cd33, ct33, sl33, rfl, l33, c33⟩⟩
  have b33 : Binds K _ ["moment"] [] := F33.binds rfl (ps := ["moment"]) fun _ _ _ _ _ _ us hl => match us, hl with | [_], _ => rfl
  have df_check_moment : C8.Def K mg "check_moment" s_check_moment f33 _ := ⟨F33, PySem.W.mg_of X G a33, k33⟩
  have bi_check_moment := b33
  have F34 : C8.Fun K "check_cost" "check_cost" s_check_cost f34 _ := ⟨⟨oc34, od34, .none, kV34, dc34, pm34, an34, cd34, ct34, sl34, rfl, l34, c34⟩⟩
  have b34 : Binds K _ ["cost"] [] := F34.binds rfl (ps := ["cost"]) fun _ _ _ _ _ _ us hl => match us, hl with | [_], _ => rfl
  have df_check_cost : C8.Def K mg "check_cost" s_check_cost f34 _ := ⟨F34, PySem.W.mg_of X G a34, k34⟩
  have bi_check_cost := b34
  have F35 : C8.Fun K "_row_with" "_row_with" s_row_with f35 _ := ⟨⟨oc35, od35, .none, kV35, dc35, pm35, an35, cd35, ct35, sl35, rfl, l35, c35⟩⟩
  have b35 : Binds K _ ["row", "moment", "cost"] [] := F35.binds rfl (ps := ["row", "moment", "cost"]) fun _ _ _ _ _ _ us hl => match us, hl with | [_, _, _], _ => rfl
  have df_row_with : C8.Def K mg "_row_with" s_row_with f35 _ := ⟨F35, PySem.W.mg_of X G a35, k35⟩
  have bi_row_with := b35
  have F36 : C8.Fun K "_check_keeps" "_check_keeps" s_check_keeps f36 _ := ⟨⟨oc36, od36, .none, kV36, dc36, pm36, an36, cd36, ct36, sl36, rfl, l36, c36⟩⟩
  have b36 : Binds K _ ["k", "bound", "row"] [] := F36.binds rfl (ps := ["k", "bound", "row"]) fun _ _ _ _ _ _ us hl => match us, hl with | [_, _, _], _ => rfl
  have df_check_keeps : C8.Def K mg "_check_keeps" s_check_keeps f36 _ := ⟨F36, PySem.W.mg_of X G a36, k36⟩
  have bi_check_keeps := b36
  have F37 : C8.Fun K "_law_cell" "_law_cell" s_Lcell f37 _ := ⟨⟨oc37, od37, .none, kV37, dc37, pm37, an37, cd37, ct37, sl37, rfl, l37, c37⟩⟩
  have b37 : Binds K _ ["_law_script", "_law_k"] [] := F37.binds rfl (ps := ["_law_script", "_law_k"]) fun _ _ _ _ _ _ us hl => match us, hl with | [_, _], _ => rfl
  have df_Lcell : C8.Def K mg "_law_cell" s_Lcell f37 _ := ⟨F37, PySem.W.mg_of X G a37, k37⟩
  have bi_Lcell := b37
  have F38 : C8.Fun K "_law_bound" "_law_bound" s_Lbound f38 _ := ⟨⟨oc38, od38, .none, kV38, dc38, pm38, an38, cd38, ct38, sl38, rfl, l38, c38⟩⟩
  have b38 : Binds K _ ["_law_cell_here", "_law_scale_here"] [] := F38.binds rfl (ps := ["_law_cell_here", "_law_scale_here"]) fun _ _ _ _ _ _ us hl => match us, hl with | [_, _], _ => rfl
  have df_Lbound : C8.Def K mg "_law_bound" s_Lbound f38 _ := ⟨F38, PySem.W.mg_of X G a38, k38⟩
  have bi_Lbound := b38
  have F39 : C8.Fun K "_law_made" "_law_made" s_Lmade f39 _ := ⟨⟨oc39, od39, .none, kV39, dc39, pm39, an39, cd39, ct39, sl39, rfl, l39, c39⟩⟩
  have b39 : Binds K _ ["_law_bound_here"] [] := F39.binds rfl (ps := ["_law_bound_here"]) fun _ _ _ _ _ _ us hl => match us, hl with | [_], _ => rfl
  have df_Lmade : C8.Def K mg "_law_made" s_Lmade f39 _ := ⟨F39, PySem.W.mg_of X G a39, k39⟩
  have bi_Lmade := b39
  have F40 : C8.Fun K "_law_room" "_law_room" s_Lroom f40 _ := ⟨⟨oc40, od40, .none, kV40, dc40, pm40, an40, cd40, ct40, sl40, rfl, l40, c40⟩⟩
  have b40 : Binds K _ ["_law_bound_here", "_law_first_here", "_law_last"] [] := F40.binds rfl (ps := ["_law_bound_here", "_law_first_here", "_law_last"]) fun _ _ _ _ _ _ us hl => match us, hl with | [_, _, _], _ => rfl
  have df_Lroom : C8.Def K mg "_law_room" s_Lroom f40 _ := ⟨F40, PySem.W.mg_of X G a40, k40⟩
  have bi_Lroom := b40
  have F41 : C8.Fun K "_law_first" "_law_first" s_Lfirst f41 _ := ⟨⟨oc41, od41, .none, kV41, dc41, pm41, an41, cd41, ct41, sl41, rfl, l41, c41⟩⟩
  have b41 : Binds K _ ["_law_bound_here", "_law_visits"] [] := F41.binds rfl (ps := ["_law_bound_here", "_law_visits"]) fun _ _ _ _ _ _ us hl => match us, hl with | [_, _], _ => rfl
  have df_Lfirst : C8.Def K mg "_law_first" s_Lfirst f41 _ := ⟨F41, PySem.W.mg_of X G a41, k41⟩
  have bi_Lfirst := b41
  have F42 : C8.Fun K "_law_breaks" "_law_breaks" s_Lbreaks f42 _ := ⟨⟨oc42, od42, .none, kV42, dc42, pm42, an42, cd42, ct42, sl42, rfl, l42, c42⟩⟩
  have b42 : Binds K _ ["_law_bounds", "_law_visits"] [] := F42.binds rfl (ps := ["_law_bounds", "_law_visits"]) fun _ _ _ _ _ _ us hl => match us, hl with | [_, _], _ => rfl
  have df_Lbreaks : C8.Def K mg "_law_breaks" s_Lbreaks f42 _ := ⟨F42, PySem.W.mg_of X G a42, k42⟩
  have bi_Lbreaks := b42
  have F43 : C8.Fun K "_law_with" "_law_with" s_Lwith f43 _ := ⟨⟨oc43, od43, .none, kV43, dc43, pm43, an43, cd43, ct43, sl43, rfl, l43, c43⟩⟩
  have b43 : Binds K _ ["_law_visits", "_law_moment", "_law_cost_here"] [] := F43.binds rfl (ps := ["_law_visits", "_law_moment", "_law_cost_here"]) fun _ _ _ _ _ _ us hl => match us, hl with | [_, _, _], _ => rfl
  have df_Lwith : C8.Def K mg "_law_with" s_Lwith f43 _ := ⟨F43, PySem.W.mg_of X G a43, k43⟩
  have bi_Lwith := b43
  have F44 : C8.Fun K "_law_cost" "_law_cost" s_Lcost f44 _ := ⟨⟨oc44, od44, .none, kV44, dc44, pm44, an44, cd44, ct44, sl44, rfl, l44, c44⟩⟩
  have b44 : Binds K _ ["_law_cell_here", "_law_scale_here"] [] := F44.binds rfl (ps := ["_law_cell_here", "_law_scale_here"]) fun _ _ _ _ _ _ us hl => match us, hl with | [_, _], _ => rfl
  have df_Lcost : C8.Def K mg "_law_cost" s_Lcost f44 _ := ⟨F44, PySem.W.mg_of X G a44, k44⟩
  have bi_Lcost := b44
  have F45 : C8.Fun K "_law_scale" "_law_scale" s_Lscale f45 _ := ⟨⟨oc45, od45, .none, kV45, dc45, pm45, an45, cd45, ct45, sl45, rfl, l45, c45⟩⟩
  have b45 : Binds K _ ["_law_cell_here"] [] := F45.binds rfl (ps := ["_law_cell_here"]) fun _ _ _ _ _ _ us hl => match us, hl with | [_], _ => rfl
  have df_Lscale : C8.Def K mg "_law_scale" s_Lscale f45 _ := ⟨F45, PySem.W.mg_of X G a45, k45⟩
  have bi_Lscale := b45
  have F46 : C8.Fun K "_law_begins" "_law_begins" s_Lbegins f46 _ := ⟨⟨oc46, od46, .none, kV46, dc46, pm46, an46, cd46, ct46, sl46, rfl, l46, c46⟩⟩
  have b46 : Binds K _ ["_law_bounds", "_law_visits", "_law_moment", "_law_cost_here"] [] := F46.binds rfl (ps := ["_law_bounds", "_law_visits", "_law_moment", "_law_cost_here"]) fun _ _ _ _ _ _ us hl => match us, hl with | [_, _, _, _], _ => rfl
  have df_Lbegins : C8.Def K mg "_law_begins" s_Lbegins f46 _ := ⟨F46, PySem.W.mg_of X G a46, k46⟩
  have bi_Lbegins := b46
  have F47 : C8.Fun K "_law_earliest" "_law_earliest" s_Learliest f47 _ := ⟨⟨oc47, od47, .none, kV47, dc47, pm47, an47, cd47, ct47, sl47, rfl, l47, c47⟩⟩
  have b47 : Binds K _ ["_law_bounds", "_law_visits", "_law_moment", "_law_cost_here"] [] := F47.binds rfl (ps := ["_law_bounds", "_law_visits", "_law_moment", "_law_cost_here"]) fun _ _ _ _ _ _ us hl => match us, hl with | [_, _, _, _], _ => rfl
  have df_Learliest : C8.Def K mg "_law_earliest" s_Learliest f47 _ := ⟨F47, PySem.W.mg_of X G a47, k47⟩
  have bi_Learliest := b47
  have F48 : C8.Fun K "_law_one_by_one" "_law_one_by_one" s_Lone_by_one f48 _ := ⟨⟨oc48, od48, .none, kV48, dc48, pm48, an48, cd48, ct48, sl48, rfl, l48, c48⟩⟩
  have b48 : Binds K _ ["_law_bounds", "_law_visits", "_law_moment", "_law_cost_here"] [] := F48.binds rfl (ps := ["_law_bounds", "_law_visits", "_law_moment", "_law_cost_here"]) fun _ _ _ _ _ _ us hl => match us, hl with | [_, _, _, _], _ => rfl
  have df_Lone_by_one : C8.Def K mg "_law_one_by_one" s_Lone_by_one f48 _ := ⟨F48, PySem.W.mg_of X G a48, k48⟩
  have bi_Lone_by_one := b48
  have F49 : C8.Fun K "_law_asked" "_law_asked" s_Lasked f49 _ := ⟨⟨oc49, od49, .none, kV49, dc49, pm49, an49, cd49, ct49, sl49, rfl, l49, c49⟩⟩
  have b49 : Binds K _ ["_law_book", "_law_bounds", "_law_visits", "_law_moment", "_law_cost_here"] [] := F49.binds rfl (ps := ["_law_book", "_law_bounds", "_law_visits", "_law_moment", "_law_cost_here"]) fun _ _ _ _ _ _ us hl => match us, hl with | [_, _, _, _, _], _ => rfl
  have df_Lasked : C8.Def K mg "_law_asked" s_Lasked f49 _ := ⟨F49, PySem.W.mg_of X G a49, k49⟩
  have bi_Lasked := b49
  have F50 : C8.Fun K "_law_put" "_law_put" s_Lput f50 _ := ⟨⟨oc50, od50, .none, kV50, dc50, pm50, an50, cd50, ct50, sl50, rfl, l50, c50⟩⟩
  have b50 : Binds K _ ["_law_book", "_law_moment", "_law_cost_here"] [] := F50.binds rfl (ps := ["_law_book", "_law_moment", "_law_cost_here"]) fun _ _ _ _ _ _ us hl => match us, hl with | [_, _, _], _ => rfl
  have df_Lput : C8.Def K mg "_law_put" s_Lput f50 _ := ⟨F50, PySem.W.mg_of X G a50, k50⟩
  have bi_Lput := b50
  have F51 : C8.Fun K "_law_wide" "_law_wide" s_Lwide f51 _ := ⟨⟨oc51, od51, .none, kV51, dc51, pm51, an51, cd51, ct51, sl51, rfl, l51, c51⟩⟩
  have b51 : Binds K _ ["_law_bound_here", "_law_cell_here"] [] := F51.binds rfl (ps := ["_law_bound_here", "_law_cell_here"]) fun _ _ _ _ _ _ us hl => match us, hl with | [_, _], _ => rfl
  have df_Lwide : C8.Def K mg "_law_wide" s_Lwide f51 _ := ⟨F51, PySem.W.mg_of X G a51, k51⟩
  have bi_Lwide := b51
  have F52 : C8.Fun K "_law_changed" "_law_changed" s_Lchanged f52 _ := ⟨⟨oc52, od52, .none, kV52, dc52, pm52, an52, cd52, ct52, sl52, rfl, l52, c52⟩⟩
  have b52 : Binds K _ ["_law_book", "_law_bounds", "_law_visits", "_law_cell_here", "_law_scale_here"] [] := F52.binds rfl (ps := ["_law_book", "_law_bounds", "_law_visits", "_law_cell_here", "_law_scale_here"]) fun _ _ _ _ _ _ us hl => match us, hl with | [_, _, _, _, _], _ => rfl
  have df_Lchanged : C8.Def K mg "_law_changed" s_Lchanged f52 _ := ⟨F52, PySem.W.mg_of X G a52, k52⟩
  have bi_Lchanged := b52
  have F53 : C8.Fun K "_law_ends" "_law_ends" s_Lends f53 _ := ⟨⟨oc53, od53, .none, kV53, dc53, pm53, an53, cd53, ct53, sl53, rfl, l53, c53⟩⟩
  have b53 : Binds K _ ["_law_begin"] [] := F53.binds rfl (ps := ["_law_begin"]) fun _ _ _ _ _ _ us hl => match us, hl with | [_], _ => rfl
  have df_Lends : C8.Def K mg "_law_ends" s_Lends f53 _ := ⟨F53, PySem.W.mg_of X G a53, k53⟩
  have bi_Lends := b53
  have F54 : C8.Fun K "law" "law" s_law f54 _ := ⟨⟨oc54, od54, .none, kV54, dc54, pm54, an54, cd54, ct54, sl54, rfl, l54, c54⟩⟩
  have b54 : Binds K _ ["_law_script"] [] := F54.binds rfl (ps := ["_law_script"]) fun _ _ _ _ _ _ us hl => match us, hl with | [_], _ => rfl
  have df_law : C8.Def K mg "law" s_law f54 _ := ⟨F54, PySem.W.mg_of X G a54, k54⟩
  have bi_law := b54
  have lB := l30
  rw [hcB] at lB
  have ccB := c30
  rw [hcB] at ccB
  have bB := b30
  rw [hcB] at bB
  have tb : PySem.W.tabIn K "broken" = some (cB, P0) := by
    unfold PySem.W.tabIn
    rw [a30]
    show (match K.lookup f30 with | some ⟨_, _, .func fd, _⟩ => _ | _ => none) = _
    rw [lB]
    show (match K.lookup cB with | some ⟨_, _, .fields vs, _⟩ => _ | _ => none) = _
    rw [lcB]
    show (match (vsB[11]? : Option Value) with | some (.ref P) => some (cB, P) | _ => none) = _
    rw [vB]
  have brkAt : BrkAt K mg cB := ⟨⟨f30, oc30, od30, kV30, dc30, pm30, an30, ct30, sl30, lB, ccB, PySem.W.mg_of X G a30, k30, bB⟩⟩
  refine ⟨PySem.W.fnOf "law" "law" (C8.fnArgs s_law) (C8.fnBody s_law) (C8.fnScope s_law) .none kV54 dc54 pm54 an54 cd54 ct54, cB, P0, tb, nB, fun s v => .of_eq rfl, fun base _ _ TB => ?_⟩
  have c_is := cal_is_within (P := l.prog) (w := w) (base := base) (mg := mg) T df_is_within bi_is_within
  have lvl := met_JarMeter__level_at (P := l.prog) (w := w) (base := base) (mg := mg) T kl_JarMeter me_JarMeter__level_at fn_JarMeter__level_at bi_JarMeter__level_at
  have waitJ := met_JarMeter_wait (P := l.prog) (w := w) (base := base) (mg := mg) kl_JarMeter lvl me_JarMeter_wait fn_JarMeter_wait bi_JarMeter_wait
  have takeJ := met_JarMeter_take (P := l.prog) (w := w) (base := base) (mg := mg) kl_JarMeter lvl me_JarMeter_take fn_JarMeter_take bi_JarMeter_take
  have makJM := mak_JarMeter2 (P := l.prog) (w := w) (base := base) (mg := mg) kl_JarMeter M_JarMeter mg_JarMeter fn_JarMeter_init bi_JarMeter_init
  have pr := cal_place_reaching (P := l.prog) (w := w) (base := base) (mg := mg) T df_place_reaching bi_place_reaching
  have waitW := met_WindowMeter_wait (P := l.prog) (w := w) (base := base) (mg := mg) T kl_WindowMeter pr me_WindowMeter_wait fn_WindowMeter_wait bi_WindowMeter_wait
  have frg := met_WindowMeter__forget (P := l.prog) (w := w) (base := base) (mg := mg) T kl_WindowMeter me_WindowMeter__forget fn_WindowMeter__forget bi_WindowMeter__forget
  have takeW := met_WindowMeter_take (P := l.prog) (w := w) (base := base) (mg := mg) kl_WindowMeter frg me_WindowMeter_take fn_WindowMeter_take bi_WindowMeter_take
  have makWM := mak_WindowMeter2 (P := l.prog) (w := w) (base := base) (mg := mg) kl_WindowMeter M_WindowMeter mg_WindowMeter fn_WindowMeter_init bi_WindowMeter_init
  have makJ := mak_Jar (P := l.prog) (w := w) (base := base) (mg := mg) Gc kl_Jar c_is M_Jar mg_Jar fn_Jar_init bi_Jar_init
  have makW := mak_Window (P := l.prog) (w := w) (base := base) (mg := mg) Gc kl_Window c_is M_Window mg_Window fn_Window_init bi_Window_init
  have metJ := met_Jar_meter2 (P := l.prog) (w := w) (base := base) (mg := mg) kl_Jar makJM me_Jar_meter fn_Jar_meter bi_Jar_meter
  have metW := met_Window_meter2 (P := l.prog) (w := w) (base := base) (mg := mg) kl_Window makWM me_Window_meter fn_Window_meter bi_Window_meter
  have nwm := cal_new_meters (P := l.prog) (w := w) (base := base) (mg := mg) metJ metW df_new_meters bi_new_meters
  have wfa := cal_wait_for_all (P := l.prog) (w := w) (base := base) (mg := mg) T waitJ waitW df_wait_for_all bi_wait_for_all
  have tba := cal_take_by_all (P := l.prog) (w := w) (base := base) (mg := mg) takeJ takeW df_take_by_all bi_take_by_all
  have rJ := met_Jar_room (P := l.prog) (w := w) (base := base) (mg := mg) kl_Jar me_Jar_room fn_Jar_room bi_Jar_room
  have rW := met_Window_room (P := l.prog) (w := w) (base := base) (mg := mg) kl_Window me_Window_room fn_Window_room bi_Window_room
  have tots := cal_totals_ahead (P := l.prog) (w := w) (base := base) (mg := mg) df_totals_ahead bi_totals_ahead
  have fsJ := cal_first_start (P := l.prog) (w := w) (base := base) (mg := mg) T (fun cl => nok_excess rJ cl) df_first_start bi_first_start
  have fsW := cal_first_start (P := l.prog) (w := w) (base := base) (mg := mg) T (fun cl => nok_excess rW cl) df_first_start bi_first_start
  have brk := cal_broken (P := l.prog) (w := w) (base := base) (mg := mg) T rJ rW tots fsJ fsW TB brkAt
  have ckb := cal_check_bound (P := l.prog) (w := w) (base := base) (mg := mg) T GG BB R_NoBound df_check_bound bi_check_bound
  have cpb := cal_copied_bounds (P := l.prog) (w := w) (base := base) (mg := mg) T GG R_NoBound ckb df_copied_bounds bi_copied_bounds
  have ckm := cal_check_moment (P := l.prog) (w := w) (base := base) (mg := mg) GG R_NoMoment c_is df_check_moment bi_check_moment
  have ckc := cal_check_cost (P := l.prog) (w := w) (base := base) (mg := mg) GG R_NoCost c_is df_check_cost bi_check_cost
  have okB := ok_Broken2 (P := l.prog) (w := w) (base := base) (mg := mg) S_6 (PySem.W.mg_none_of X G z_super) n6_k n6_stretch lf_6 co_6
  have rwt := cal_row_with (P := l.prog) (w := w) (base := base) (mg := mg) T df_row_with bi_row_with
  have kps := cal_check_keeps (P := l.prog) (w := w) (base := base) (mg := mg) T X_Broken okB brk df_check_keeps bi_check_keeps
  have mkB := mak_Book (P := l.prog) (w := w) (base := base) (mg := mg) (cs := fun i => ([Cx0, Cx1, Cx2, Cx3, Cx4, Cx5, Cx6] : List Addr).getD i 0) kl_Book cpb M_Book mg_Book fn_Book_init bi_Book_init
  have vis := met_visits (P := l.prog) (w := w) (base := base) (mg := mg) (cJ := C_Jar) (cW := C_Window) kl_Book T me_Book_visits fn_Book_visits bi_Book_visits
  have put := met_put (P := l.prog) (w := w) (base := base) (mg := mg) T GG kl_Book R_Full ckm ckc rwt kps me_Book_put fn_Book_put bi_Book_put
  have drp := met_drop (P := l.prog) (w := w) (base := base) (mg := mg) (cJ := C_Jar) (cW := C_Window) T GG kl_Book R_NoVisit ckm ckc me_Book_drop fn_Book_drop bi_Book_drop
  have chg := met_change (P := l.prog) (w := w) (base := base) (mg := mg) T GG kl_Book R_NoPlace c_is ckb kps me_Book_change fn_Book_change bi_Book_change
  have tup := met_take_up (P := l.prog) (w := w) (base := base) (mg := mg) (cJ := C_Jar) (cW := C_Window) T kl_Book tba me_Book__take_up_to fn_Book__take_up_to bi_Book__take_up_to
  have kpw := met_kept_with (P := l.prog) (w := w) (base := base) (mg := mg) T kl_Book rwt brk me_Book__is_kept_with fn_Book__is_kept_with bi_Book__is_kept_with
  have erl := met_earliest (P := l.prog) (w := w) (base := base) (mg := mg) T GG kl_Book ckm ckc nwm wfa tup kpw me_Book_earliest fn_Book_earliest bi_Book_earliest
  have cell := cal_Lcell (P := l.prog) (w := w) (base := base) (mg := mg) T df_Lcell bi_Lcell
  have scl := cal_Lscale (P := l.prog) (w := w) (base := base) (mg := mg) df_Lscale bi_Lscale
  have cst := cal_Lcost (P := l.prog) (w := w) (base := base) (mg := mg) T df_Lcost bi_Lcost
  have bnd := cal_Lbound (P := l.prog) (w := w) (base := base) (mg := mg) T df_Lbound bi_Lbound
  have made := cal_Lmade (P := l.prog) (w := w) (base := base) (mg := mg) makJ makW df_Lmade bi_Lmade
  have room := cal_Lroom (P := l.prog) (w := w) (base := base) (mg := mg) df_Lroom bi_Lroom
  have first := cal_Lfirst (P := l.prog) (w := w) (base := base) (mg := mg) T room df_Lfirst bi_Lfirst
  have brs := cal_Lbreaks (P := l.prog) (w := w) (base := base) (mg := mg) T first df_Lbreaks bi_Lbreaks
  have wth := cal_Lwith (P := l.prog) (w := w) (base := base) (mg := mg) T df_Lwith bi_Lwith
  have bgs := cal_Lbegins (P := l.prog) (w := w) (base := base) (mg := mg) T df_Lbegins bi_Lbegins
  have ear := cal_Learliest (P := l.prog) (w := w) (base := base) (mg := mg) T bgs brs wth df_Learliest bi_Learliest
  have one := cal_Lone_by_one (P := l.prog) (w := w) (base := base) (mg := mg) T brs wth df_Lone_by_one bi_Lone_by_one
  have ask := cal_Lasked (P := l.prog) (w := w) (base := base) (mg := mg) T ear erl vis df_Lasked bi_Lasked
  have pt10 := cal_Lput (P := l.prog) (w := w) (base := base) (mg := mg) T GG KR put df_Lput bi_Lput
  have wid := cal_Lwide (P := l.prog) (w := w) (base := base) (mg := mg) df_Lwide bi_Lwide
  have chd := cal_Lchanged (P := l.prog) (w := w) (base := base) (mg := mg) T bnd wid first made chg df_Lchanged bi_Lchanged
  have ends := cal_Lends (cs := fun i => ([Cx0, Cx1, Cx2, Cx3, Cx4, Cx5, Cx6] : List Addr).getD i 0) (P := l.prog) (w := w) (base := base) (mg := mg) T makJ mkB put erl df_Lends bi_Lends
  exact ok_law (cs := fun i => ([Cx0, Cx1, Cx2, Cx3, Cx4, Cx5, Cx6] : List Addr).getD i 0) T df_law.fn cell scl bnd wid made cst mkB vis drp erl pt10 wth chd ask one ends
theorem walk3 {l : PySem.W.OpenLaw} {q : Program} {loose : List Str} {XP : (Str → Option Value) → Heap → Prop} {YP : World → Heap → Prop} {d dB : DefRec} {K : Params → PySem.W.Frag} (hn : l.most = some 63) (hdf : d.params.defaults = []) (hrec : (recsOf q).find? (fun e => e.name == ("broken" : Str)) = some dB)
    (hY : ∀ (w : World) (h : Heap), YP w h → (K w.params).In h)
    (F : ∀ (w : World) (mg : Str → Option Value) (fa : Addr) (h : Heap), (K w.params).In h → h.Ns mainGlobals mg → mg d.name = some (.ref fa) →
      ∃ (fd : FuncData) (cB P0 : Addr), PySem.W.tabIn (K w.params) "broken" = some (cB, P0) ∧ (K w.params).lookup P0 = none ∧ (∀ (s : Shared) (v : Value), BindsTo s fd ⟨[v], []⟩ [("_law_script", v)]) ∧ ∀ base : Heap, (K w.params).In base → base.Ns mainGlobals mg → LamX.TabB base mg cB P0 →
        FnOk l.prog w (K w.params) mg base C8.CX0 9 fa fd ["_law_script"] (spLaw10 [(P0, fun _ _ => qE)] (K w.params))) :
    PySem.W.WalkO q loose XP YP l.row.toRowW d [] (fun f vs => PySem.call f vs) := by
  refine Att.attach_callB hn hdf fun w s0 s1 mg mb fa o pm cd doc a vs ns G Y ho hd hcd hmg hobj hints hlen hbits hg => ?_
  have KX := hY w _ Y
  obtain ⟨fd, cB, P0, ht, nP, hb, hF⟩ := F w mg fa _ KX G.T.g hmg
  obtain ⟨code, tab⟩ := PySem.W.tab_of G.T KX hrec ht
  have one : ∀ {φ : Addr × Addr → Prop}, φ (cB, P0) → ∀ p ∈ [(cB, P0)], φ p := fun h p hp => by
    rw [List.mem_singleton.mp hp]
    exact h
  refine LamX.law_callTs (cs := [(cB, P0)]) (k := 9) (x := "_law_script") (CX := C8.CX0) KX G.T.g G.T.b G.T.builtins G.T.nolimit hg (one tab) (one nP) (one code) G.T.bmain hobj hints (Nat.le_trans hlen (by decide)) ⟨rfl, by decide, by decide⟩ (fun base k1 k2 k3 => hF base k1 k2 (k3 _ (List.mem_singleton.mpr rfl))) hb (fun H hH hS => ?_) fun _ _ _ z => z
  exact ⟨a, ns, rfl, hS, hlen, fun p hp => by
    rw [List.mem_singleton.mp hp]
    exact NdefX.TabN.nil (hH (cB, P0) (List.mem_singleton.mpr rfl)), fun _ => rfl⟩
end
end Tk
open PySem PySem.W PyProof.Rows
set_option maxRecDepth 100000 in
set_option maxHeartbeats 0 in
theorem PySem.Challenge.cw_turnstile_k10_whole_earliest_holds : PySem.Challenge.rw_turnstile_k10_whole_earliest.Holds := by
  w_on; o_law; k_head; (case hw => w_witness2)
  k_fill
  refine Tk.walk3 (l := PySem.Challenge.rw_turnstile_k10_whole_earliest) rfl rfl (by exact rfl) (fun w h Y => PySem.W.km_in_of Y) ?F
  case F =>
    intro w mg fa h KX G hmg
    refine' Tk.all_mk KX G hmg ?z_len ?z_range ?z_max ?z_min ?z_int ?z_bool ?z_tuple ?z_list ?z_isinstance ?z_enumerate ?z_super ?z_reversed ?z_all ?z_sorted ?z_set ?g_LARGEST_SIZE ?g_LARGEST_FLOW ?g_LARGEST_MOST ?g_LARGEST_SPAN ?g_MOST_BOUNDS ?g_LARGEST_MOMENT ?g_LARGEST_COST ?g_MOST_VISITS ?aC_JarMeter ?pg_JarMeter ?hd_JarMeter ?po_JarMeter ?sa_JarMeter ?mk_JarMeter ?kc_JarMeter ?n_JarMeter_0 ?n_JarMeter_1 ?n_JarMeter_2 ?n_JarMeter_3 ?a1 ?l1 ?c1 ?k1 ?i1 ?a2 ?l2 ?c2 ?k2 ?i2 ?a3 ?l3 ?c3 ?k3 ?i3 ?a4 ?l4 ?c4 ?k4 ?i4 ?aC_WindowMeter ?pg_WindowMeter ?hd_WindowMeter ?po_WindowMeter ?sa_WindowMeter ?mk_WindowMeter ?kc_WindowMeter ?n_WindowMeter_0 ?n_WindowMeter_1 ?n_WindowMeter_2 ?n_WindowMeter_3 ?n_WindowMeter_4 ?a5 ?l5 ?c5 ?k5 ?i5 ?a6 ?l6 ?c6 ?k6 ?i6 ?a7 ?l7 ?c7 ?k7 ?i7 ?a8 ?l8 ?c8 ?k8 ?i8 ?aC_Jar ?pg_Jar ?hd_Jar ?po_Jar ?sa_Jar ?mk_Jar ?kc_Jar ?n_Jar_0 ?n_Jar_1 ?a9 ?l9 ?c9 ?k9 ?i9 ?a10 ?l10 ?c10 ?k10 ?i10 ?a11 ?l11 ?c11 ?k11 ?i11 ?aC_Window ?pg_Window ?hd_Window ?po_Window ?sa_Window ?mk_Window ?kc_Window ?n_Window_0 ?n_Window_1 ?a12 ?l12 ?c12 ?k12 ?i12 ?a13 ?l13 ?c13 ?k13 ?i13 ?a14 ?l14 ?c14 ?k14 ?i14 ?aC_Book ?pg_Book ?hd_Book ?po_Book ?sa_Book ?mk_Book ?kc_Book ?n_Book_0 ?n_Book_1 ?a15 ?l15 ?c15 ?k15 ?i15 ?a16 ?l16 ?c16 ?k16 ?i16 ?a17 ?l17 ?c17 ?k17 ?i17 ?a18 ?l18 ?c18 ?k18 ?i18 ?a19 ?l19 ?c19 ?k19 ?i19 ?a20 ?l20 ?c20 ?k20 ?i20 ?a21 ?l21 ?c21 ?k21 ?i21 ?a22 ?l22 ?c22 ?k22 ?i22 ?aG ?dG ?tG ?sGB ?hn ?ht ?opq ?tops ?a_0 ?kp_0 ?hg_0 ?hk_0 ?hs_0 ?hd_0 ?ha_0 ?hm_0 ?sg_0 ?sv_0 ?ty_0 ?x_0 ?a_1 ?kp_1 ?hg_1 ?hk_1 ?hs_1 ?hd_1 ?ha_1 ?hm_1 ?sg_1 ?sv_1 ?ty_1 ?x_1 ?a_2 ?kp_2 ?hg_2 ?hk_2 ?hs_2 ?hd_2 ?ha_2 ?hm_2 ?sg_2 ?sv_2 ?ty_2 ?x_2 ?a_3 ?kp_3 ?hg_3 ?hk_3 ?hs_3 ?hd_3 ?ha_3 ?hm_3 ?sg_3 ?sv_3 ?ty_3 ?x_3 ?a_4 ?kp_4 ?hg_4 ?hk_4 ?hs_4 ?hd_4 ?ha_4 ?hm_4 ?sg_4 ?sv_4 ?ty_4 ?x_4 ?a_5 ?kp_5 ?hg_5 ?hk_5 ?hs_5 ?hd_5 ?ha_5 ?hm_5 ?sg_5 ?sv_5 ?ty_5 ?x_5 ?a_6 ?kp_6 ?hg_6 ?hk_6 ?hs_6 ?hd_6 ?ha_6 ?hm_6 ?sg_6 ?sv_6 ?ty_6 ?s_0_0 ?s_0_1 ?s_0_2 ?s_0_3 ?s_0_4 ?s_0_5 ?s_0_6 ?s_1_0 ?s_1_1 ?s_1_2 ?s_1_3 ?s_1_4 ?s_1_5 ?s_1_6 ?s_2_0 ?s_2_1 ?s_2_2 ?s_2_3 ?s_2_4 ?s_2_5 ?s_2_6 ?s_3_0 ?s_3_1 ?s_3_2 ?s_3_3 ?s_3_4 ?s_3_5 ?s_3_6 ?s_4_0 ?s_4_1 ?s_4_2 ?s_4_3 ?s_4_4 ?s_4_5 ?s_4_6 ?s_5_0 ?s_5_1 ?s_5_2 ?s_5_3 ?s_5_4 ?s_5_5 ?s_5_6 ?s_6_0 ?s_6_1 ?s_6_2 ?s_6_3 ?s_6_4 ?s_6_5 ?s_6_6 ?kl_6 ?rv_6 ?sa_6 ?ii_6 ?it_6 ?lf_6 ?co_6 ?ce_6 ?cf_6 ?v2_6 ?fi_6 ?me_6 ?su_6 ?n6_k ?n6_stretch ?haJ ?hmJ ?haW ?hmW ?tJ ?tW ?wjs ?wws ?a23 ?l23 ?c23 ?k23 ?a24 ?l24 ?c24 ?k24 ?a25 ?l25 ?c25 ?k25 ?a26 ?l26 ?c26 ?k26 ?a27 ?l27 ?c27 ?k27 ?a28 ?l28 ?c28 ?k28 ?a29 ?l29 ?c29 ?k29 ?a30 ?l30 ?c30 ?k30 ?a31 ?l31 ?c31 ?k31 ?a32 ?l32 ?c32 ?k32 ?a33 ?l33 ?c33 ?k33 ?a34 ?l34 ?c34 ?k34 ?a35 ?l35 ?c35 ?k35 ?a36 ?l36 ?c36 ?k36 ?a37 ?l37 ?c37 ?k37 ?a38 ?l38 ?c38 ?k38 ?a39 ?l39 ?c39 ?k39 ?a40 ?l40 ?c40 ?k40 ?a41 ?l41 ?c41 ?k41 ?a42 ?l42 ?c42 ?k42 ?a43 ?l43 ?c43 ?k43 ?a44 ?l44 ?c44 ?k44 ?a45 ?l45 ?c45 ?k45 ?a46 ?l46 ?c46 ?k46 ?a47 ?l47 ?c47 ?k47 ?a48 ?l48 ?c48 ?k48 ?a49 ?l49 ?c49 ?k49 ?a50 ?l50 ?c50 ?k50 ?a51 ?l51 ?c51 ?k51 ?a52 ?l52 ?c52 ?k52 ?a53 ?l53 ?c53 ?k53 ?a54 ?l54 ?c54 ?k54 ?hcB ?lcB ?vB ?nB
    (case z_len => k_is)
    (case z_range => k_is)
    (case z_max => k_is)
    (case z_min => k_is)
    (case z_int => k_is)
    (case z_bool => k_is)
    (case z_tuple => k_is)
    (case z_list => k_is)
    (case z_isinstance => k_is)
    (case z_enumerate => k_is)
    (case z_super => k_is)
    (case z_reversed => k_is)
    (case z_all => k_is)
    (case z_sorted => k_is)
    (case z_set => k_is)
    (case g_LARGEST_SIZE => k_is)
    (case g_LARGEST_FLOW => k_is)
    (case g_LARGEST_MOST => k_is)
    (case g_LARGEST_SPAN => k_is)
    (case g_MOST_BOUNDS => k_is)
    (case g_LARGEST_MOMENT => k_is)
    (case g_LARGEST_COST => k_is)
    (case g_MOST_VISITS => k_is)
    (case aC_JarMeter => k_is)
    (case pg_JarMeter => k_is)
    (case hd_JarMeter => k_is)
    (case po_JarMeter => k_is)
    (case sa_JarMeter => k_is)
    (case mk_JarMeter => k_is)
    (case kc_JarMeter => k_is)
    (case n_JarMeter_0 => k_is)
    (case n_JarMeter_1 => k_is)
    (case n_JarMeter_2 => k_is)
    (case n_JarMeter_3 => k_is)
    (case a1 => k_is)
    (case l1 => k_is)
    (case c1 => k_is)
    (case k1 => k_is)
    (case i1 => k_is)
    (case a2 => k_is)
    (case l2 => k_is)
    (case c2 => k_is)
    (case k2 => k_is)
    (case i2 => k_is)
    (case a3 => k_is)
    (case l3 => k_is)
    (case c3 => k_is)
    (case k3 => k_is)
    (case i3 => k_is)
    (case a4 => k_is)
    (case l4 => k_is)
    (case c4 => k_is)
    (case k4 => k_is)
    (case i4 => k_is)
    (case aC_WindowMeter => k_is)
    (case pg_WindowMeter => k_is)
    (case hd_WindowMeter => k_is)
    (case po_WindowMeter => k_is)
    (case sa_WindowMeter => k_is)
    (case mk_WindowMeter => k_is)
    (case kc_WindowMeter => k_is)
    (case n_WindowMeter_0 => k_is)
    (case n_WindowMeter_1 => k_is)
    (case n_WindowMeter_2 => k_is)
    (case n_WindowMeter_3 => k_is)
    (case n_WindowMeter_4 => k_is)
    (case a5 => k_is)
    (case l5 => k_is)
    (case c5 => k_is)
    (case k5 => k_is)
    (case i5 => k_is)
    (case a6 => k_is)
    (case l6 => k_is)
    (case c6 => k_is)
    (case k6 => k_is)
    (case i6 => k_is)
    (case a7 => k_is)
    (case l7 => k_is)
    (case c7 => k_is)
    (case k7 => k_is)
    (case i7 => k_is)
    (case a8 => k_is)
    (case l8 => k_is)
    (case c8 => k_is)
    (case k8 => k_is)
    (case i8 => k_is)
    (case aC_Jar => k_is)
    (case pg_Jar => k_is)
    (case hd_Jar => k_is)
    (case po_Jar => k_is)
    (case sa_Jar => k_is)
    (case mk_Jar => k_is)
    (case kc_Jar => k_is)
    (case n_Jar_0 => k_is)
    (case n_Jar_1 => k_is)
    (case a9 => k_is)
    (case l9 => k_is)
    (case c9 => k_is)
    (case k9 => k_is)
    (case i9 => k_is)
    (case a10 => k_is)
    (case l10 => k_is)
    (case c10 => k_is)
    (case k10 => k_is)
    (case i10 => k_is)
    (case a11 => k_is)
    (case l11 => k_is)
    (case c11 => k_is)
    (case k11 => k_is)
    (case i11 => k_is)
    (case aC_Window => k_is)
    (case pg_Window => k_is)
    (case hd_Window => k_is)
    (case po_Window => k_is)
    (case sa_Window => k_is)
    (case mk_Window => k_is)
    (case kc_Window => k_is)
    (case n_Window_0 => k_is)
    (case n_Window_1 => k_is)
    (case a12 => k_is)
    (case l12 => k_is)
    (case c12 => k_is)
    (case k12 => k_is)
    (case i12 => k_is)
    (case a13 => k_is)
    (case l13 => k_is)
    (case c13 => k_is)
    (case k13 => k_is)
    (case i13 => k_is)
    (case a14 => k_is)
    (case l14 => k_is)
    (case c14 => k_is)
    (case k14 => k_is)
    (case i14 => k_is)
    (case aC_Book => k_is)
    (case pg_Book => k_is)
    (case hd_Book => k_is)
    (case po_Book => k_is)
    (case sa_Book => k_is)
    (case mk_Book => k_is)
    (case kc_Book => k_is)
    (case n_Book_0 => k_is)
    (case n_Book_1 => k_is)
    (case a15 => k_is)
    (case l15 => k_is)
    (case c15 => k_is)
    (case k15 => k_is)
    (case i15 => k_is)
    (case a16 => k_is)
    (case l16 => k_is)
    (case c16 => k_is)
    (case k16 => k_is)
    (case i16 => k_is)
    (case a17 => k_is)
    (case l17 => k_is)
    (case c17 => k_is)
    (case k17 => k_is)
    (case i17 => k_is)
    (case a18 => k_is)
    (case l18 => k_is)
    (case c18 => k_is)
    (case k18 => k_is)
    (case i18 => k_is)
    (case a19 => k_is)
    (case l19 => k_is)
    (case c19 => k_is)
    (case k19 => k_is)
    (case i19 => k_is)
    (case a20 => k_is)
    (case l20 => k_is)
    (case c20 => k_is)
    (case k20 => k_is)
    (case i20 => k_is)
    (case a21 => k_is)
    (case l21 => k_is)
    (case c21 => k_is)
    (case k21 => k_is)
    (case i21 => k_is)
    (case a22 => k_is)
    (case l22 => k_is)
    (case c22 => k_is)
    (case k22 => k_is)
    (case i22 => k_is)
    (case aG => k_is)
    (case dG => k_is)
    (case tG => k_is)
    (case sGB => k_is)
    (case hn => k_is)
    (case ht => k_is)
    (case opq => k_is)
    (case tops => exact rfl)
    (case a_0 => k_is)
    (case kp_0 => k_is)
    (case hg_0 => k_is)
    (case hk_0 => k_is)
    (case hs_0 => k_is)
    (case hd_0 => k_is)
    (case ha_0 => k_is)
    (case hm_0 => k_is)
    (case sg_0 => k_is)
    (case sv_0 => k_is)
    (case ty_0 => k_is)
    (case x_0 => k_exc)
    (case a_1 => k_is)
    (case kp_1 => k_is)
    (case hg_1 => k_is)
    (case hk_1 => k_is)
    (case hs_1 => k_is)
    (case hd_1 => k_is)
    (case ha_1 => k_is)
    (case hm_1 => k_is)
    (case sg_1 => k_is)
    (case sv_1 => k_is)
    (case ty_1 => k_is)
    (case x_1 => k_exc)
    (case a_2 => k_is)
    (case kp_2 => k_is)
    (case hg_2 => k_is)
    (case hk_2 => k_is)
    (case hs_2 => k_is)
    (case hd_2 => k_is)
    (case ha_2 => k_is)
    (case hm_2 => k_is)
    (case sg_2 => k_is)
    (case sv_2 => k_is)
    (case ty_2 => k_is)
    (case x_2 => k_exc)
    (case a_3 => k_is)
    (case kp_3 => k_is)
    (case hg_3 => k_is)
    (case hk_3 => k_is)
    (case hs_3 => k_is)
    (case hd_3 => k_is)
    (case ha_3 => k_is)
    (case hm_3 => k_is)
    (case sg_3 => k_is)
    (case sv_3 => k_is)
    (case ty_3 => k_is)
    (case x_3 => k_exc)
    (case a_4 => k_is)
    (case kp_4 => k_is)
    (case hg_4 => k_is)
    (case hk_4 => k_is)
    (case hs_4 => k_is)
    (case hd_4 => k_is)
    (case ha_4 => k_is)
    (case hm_4 => k_is)
    (case sg_4 => k_is)
    (case sv_4 => k_is)
    (case ty_4 => k_is)
    (case x_4 => k_exc)
    (case a_5 => k_is)
    (case kp_5 => k_is)
    (case hg_5 => k_is)
    (case hk_5 => k_is)
    (case hs_5 => k_is)
    (case hd_5 => k_is)
    (case ha_5 => k_is)
    (case hm_5 => k_is)
    (case sg_5 => k_is)
    (case sv_5 => k_is)
    (case ty_5 => k_is)
    (case x_5 => k_exc)
    (case a_6 => k_is)
    (case kp_6 => k_is)
    (case hg_6 => k_is)
    (case hk_6 => k_is)
    (case hs_6 => k_is)
    (case hd_6 => k_is)
    (case ha_6 => k_is)
    (case hm_6 => k_is)
    (case sg_6 => k_is)
    (case sv_6 => k_is)
    (case ty_6 => k_is)
    (case s_0_0 => k_is)
    (case s_0_1 => k_is)
    (case s_0_2 => k_is)
    (case s_0_3 => k_is)
    (case s_0_4 => k_is)
    (case s_0_5 => k_is)
    (case s_0_6 => k_is)
    (case s_1_0 => k_is)
    (case s_1_1 => k_is)
    (case s_1_2 => k_is)
    (case s_1_3 => k_is)
    (case s_1_4 => k_is)
    (case s_1_5 => k_is)
    (case s_1_6 => k_is)
    (case s_2_0 => k_is)
    (case s_2_1 => k_is)
    (case s_2_2 => k_is)
    (case s_2_3 => k_is)
    (case s_2_4 => k_is)
    (case s_2_5 => k_is)
    (case s_2_6 => k_is)
    (case s_3_0 => k_is)
    (case s_3_1 => k_is)
    (case s_3_2 => k_is)
    (case s_3_3 => k_is)
    (case s_3_4 => k_is)
    (case s_3_5 => k_is)
    (case s_3_6 => k_is)
    (case s_4_0 => k_is)
    (case s_4_1 => k_is)
    (case s_4_2 => k_is)
    (case s_4_3 => k_is)
    (case s_4_4 => k_is)
    (case s_4_5 => k_is)
    (case s_4_6 => k_is)
    (case s_5_0 => k_is)
    (case s_5_1 => k_is)
    (case s_5_2 => k_is)
    (case s_5_3 => k_is)
    (case s_5_4 => k_is)
    (case s_5_5 => k_is)
    (case s_5_6 => k_is)
    (case s_6_0 => k_is)
    (case s_6_1 => k_is)
    (case s_6_2 => k_is)
    (case s_6_3 => k_is)
    (case s_6_4 => k_is)
    (case s_6_5 => k_is)
    (case s_6_6 => k_is)
    (case kl_6 => k_is)
    (case rv_6 => first | exact rfl | decide +kernel)
    (case sa_6 => k_is)
    (case ii_6 => k_is)
    (case it_6 => k_is)
    (case lf_6 => k_is)
    (case co_6 => k_is)
    (case ce_6 => k_is)
    (case cf_6 => k_is)
    (case v2_6 => exact rfl)
    (case fi_6 => first | exact rfl | decide +kernel)
    (case me_6 => k_is)
    (case su_6 => ks_is)
    (case n6_k => k_is)
    (case n6_stretch => k_is)
    (case haJ => k_is)
    (case hmJ => k_is)
    (case haW => k_is)
    (case hmW => k_is)
    (case tJ => k_is)
    (case tW => k_is)
    (case wjs => k_is)
    (case wws => k_is)
    (case a23 => k_is)
    (case l23 => k_is)
    (case c23 => k_is)
    (case k23 => k_is)
    (case a24 => k_is)
    (case l24 => k_is)
    (case c24 => k_is)
    (case k24 => k_is)
    (case a25 => k_is)
    (case l25 => k_is)
    (case c25 => k_is)
    (case k25 => k_is)
    (case a26 => k_is)
    (case l26 => k_is)
    (case c26 => k_is)
    (case k26 => k_is)
    (case a27 => k_is)
    (case l27 => k_is)
    (case c27 => k_is)
    (case k27 => k_is)
    (case a28 => k_is)
    (case l28 => k_is)
    (case c28 => k_is)
    (case k28 => k_is)
    (case a29 => k_is)
    (case l29 => k_is)
    (case c29 => k_is)
    (case k29 => k_is)
    (case a30 => k_is)
    (case l30 => k_is)
    (case c30 => k_is)
    (case k30 => k_is)
    (case a31 => k_is)
    (case l31 => k_is)
    (case c31 => k_is)
    (case k31 => k_is)
    (case a32 => k_is)
    (case l32 => k_is)
    (case c32 => k_is)
    (case k32 => k_is)
    (case a33 => k_is)
    (case l33 => k_is)
    (case c33 => k_is)
    (case k33 => k_is)
    (case a34 => k_is)
    (case l34 => k_is)
    (case c34 => k_is)
    (case k34 => k_is)
    (case a35 => k_is)
    (case l35 => k_is)
    (case c35 => k_is)
    (case k35 => k_is)
    (case a36 => k_is)
    (case l36 => k_is)
    (case c36 => k_is)
    (case k36 => k_is)
    (case a37 => k_is)
    (case l37 => k_is)
    (case c37 => k_is)
    (case k37 => k_is)
    (case a38 => k_is)
    (case l38 => k_is)
    (case c38 => k_is)
    (case k38 => k_is)
    (case a39 => k_is)
    (case l39 => k_is)
    (case c39 => k_is)
    (case k39 => k_is)
    (case a40 => k_is)
    (case l40 => k_is)
    (case c40 => k_is)
    (case k40 => k_is)
    (case a41 => k_is)
    (case l41 => k_is)
    (case c41 => k_is)
    (case k41 => k_is)
    (case a42 => k_is)
    (case l42 => k_is)
    (case c42 => k_is)
    (case k42 => k_is)
    (case a43 => k_is)
    (case l43 => k_is)
    (case c43 => k_is)
    (case k43 => k_is)
    (case a44 => k_is)
    (case l44 => k_is)
    (case c44 => k_is)
    (case k44 => k_is)
    (case a45 => k_is)
    (case l45 => k_is)
    (case c45 => k_is)
    (case k45 => k_is)
    (case a46 => k_is)
    (case l46 => k_is)
    (case c46 => k_is)
    (case k46 => k_is)
    (case a47 => k_is)
    (case l47 => k_is)
    (case c47 => k_is)
    (case k47 => k_is)
    (case a48 => k_is)
    (case l48 => k_is)
    (case c48 => k_is)
    (case k48 => k_is)
    (case a49 => k_is)
    (case l49 => k_is)
    (case c49 => k_is)
    (case k49 => k_is)
    (case a50 => k_is)
    (case l50 => k_is)
    (case c50 => k_is)
    (case k50 => k_is)
    (case a51 => k_is)
    (case l51 => k_is)
    (case c51 => k_is)
    (case k51 => k_is)
    (case a52 => k_is)
    (case l52 => k_is)
    (case c52 => k_is)
    (case k52 => k_is)
    (case a53 => k_is)
    (case l53 => k_is)
    (case c53 => k_is)
    (case k53 => k_is)
    (case a54 => k_is)
    (case l54 => k_is)
    (case c54 => k_is)
    (case k54 => k_is)
    (case hcB => exact rfl)
    (case lcB => k_is)
    (case vB => exact rfl)
    (case nB => kernel_rfl)
#print axioms PySem.Challenge.cw_turnstile_k10_whole_earliest_holds
