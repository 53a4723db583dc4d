import PyProof.Rows.All
import Wide.All
import OpenK.AllK
import Wide.FinOn
import PyProof.EqAt
import PyProof.EqKinds
import PyProof.TupleCall
import HandS.ForMost
import HandS.ForExc
import HandS.Evl
import HandS.Codes
import HandS.IsInst
import HandS.Property
import HandS.Style
import HandS.RevRange
import HandS.Nested
import HandS.Flow
import HandS.ExcIs
import HandS.RaiseMore
import HandS.FStr
import HandS.Property
import HandS.Nested
import HandS.RevRange
import HandS.EndTab
import HandS.ExcValue
import HandS.ExcInit
import HandS.FStrTup
import KE.KExcIs
import KE.KExcSuper
import PyProof.Rows.RegStrFacts
import PySem.Challenge.RW_turnstile_k01_refusals_apart
set_option Elab.async false
set_option linter.all false
set_option maxRecDepth 100000
set_option maxHeartbeats 1000000
namespace Tk
open PySem PySem.Spec PyProof.Rows L2 Evl
/-! Big steps over the readings: what a block hands back, or with which slots it falls through; the heap only grows. -/
def Rt (t : TS) (σ : L2.St) (H : Hp) (v : V) : Prop := ∀ H1, Ex H H1 → ∀ D : Ends, (∀ H2, Ex H1 H2 → D.rt v H2) → t D σ H1
def Nx (t : TS) (σ : L2.St) (H : Hp) (σ' : L2.St) : Prop := ∀ H1, Ex H H1 → ∀ D : Ends, (∀ H2, Ex H1 H2 → D.nx σ' H2) → t D σ H1
/-- .. a value by what is true of it and the heap -/
def RtW (t : TS) (σ : L2.St) (H : Hp) (W : V → Hp → Prop) : Prop := ∀ H1, Ex H H1 → ∀ D : Ends, (∀ v H2, Ex H1 H2 → W v H2 → D.rt v H2) → t D σ H1
def EvW (te : TE) (σ : L2.St) (H : Hp) (W : V → Hp → Prop) : Prop := ∀ H1, Ex H H1 → ∀ Q : VK, (∀ v H2, Ex H1 H2 → W v H2 → Q v H2) → te σ H1 Q
section
variable {σ σ' σ'' : L2.St} {H H' : Hp} {v x y z : V} {te ta tb : TE} {t u tw tz : TS} {c c2 : TT} {b : Bool} {W : V → Hp → Prop} {K : PySem.W.Frag} {r : R2}
theorem Rt.mono (e : Ex H H') (h : Rt t σ H v) : Rt t σ H' v := fun H1 a D q => h H1 (e.trans a) D q
theorem Nx.mono (e : Ex H H') (h : Nx t σ H σ') : Nx t σ H' σ' := fun H1 a D q => h H1 (e.trans a) D q
theorem Rt.w (h : Rt t σ H v) (hw : ∀ H1, Ex H H1 → W v H1) : RtW t σ H W := fun H1 e D q => h H1 e D fun H2 e2 => q v H2 e2 (hw H2 (e.trans e2))
theorem Rt.is (h : Rt t σ H x) (e : x = y) : Rt t σ H y := e ▸ h
theorem Nx.is (h : Nx t σ H σ') (e : σ' = σ'') : Nx t σ H σ'' := e ▸ h
theorem rt_ret (h : Ev te σ H v) : Rt (tRet te) σ H v := fun H1 e D q => h H1 e _ fun H2 e2 => q H2 e2
theorem rt_retN : Rt tRetN σ H .non := fun H1 _ D q => q H1 (Ex.refl H1)
theorem rtw_ret (h : EvW te σ H W) : RtW (tRet te) σ H W := fun H1 e D q => h H1 e _ fun v H2 e2 w => q v H2 e2 w
theorem rt_seq (h : Nx t σ H σ') (k : Rt u σ' H v) : Rt (tSeq t u) σ H v := fun H1 e D q => h H1 e { D with nx := u D } fun H2 e2 => k H2 (e.trans e2) D fun H3 e3 => q H3 (e2.trans e3)
theorem rtw_seq (h : Nx t σ H σ') (k : RtW u σ' H W) : RtW (tSeq t u) σ H W := fun H1 e D q => h H1 e { D with nx := u D } fun H2 e2 => k H2 (e.trans e2) D fun v H3 e3 w => q v H3 (e2.trans e3) w
theorem rt_now (h : Rt t σ H v) : Rt (tSeq t u) σ H v := fun H1 e D q => h H1 e { D with nx := u D } q
theorem rtw_now (h : RtW t σ H W) : RtW (tSeq t u) σ H W := fun H1 e D q => h H1 e { D with nx := u D } q
theorem nx_seq (h : Nx t σ H σ') (k : Nx u σ' H σ'') : Nx (tSeq t u) σ H σ'' := fun H1 e D q => h H1 e { D with nx := u D } fun H2 e2 => k H2 (e.trans e2) D fun H3 e3 => q H3 (e2.trans e3)
theorem nx_next : Nx tNext σ H σ := fun H1 _ D q => q H1 (Ex.refl H1)
theorem nx_asg {i : Nat} (h : Ev te σ H v) : Nx (tAsg te (gName i)) σ H (σ.set i (some v)) := fun H1 e D q => h H1 e _ fun H2 e2 => q H2 e2
theorem nx_drop (h : Ev te σ H v) : Nx (tDrop te) σ H σ := fun H1 e D q => h H1 e _ fun H2 e2 => q H2 e2
theorem nx_aug {i : Nat} {f : Int → Int → Int} {a d : Int} (hx : σ[i]? = some (some (.int a))) (h : Ev te σ H (.int d)) : Nx (tAug i te (ipI f)) σ H (σ.set i (some (.int (f a d)))) := fun H1 e D q =>
  ⟨.int a, hx, h H1 e _ fun H2 e2 => ⟨a, d, rfl, rfl, q H2 e2⟩⟩
theorem rt_if (h : EvT c σ H b) (h1 : b = true → Rt t σ H v) (h2 : b = false → Rt u σ H v) : Rt (tIfS c t u) σ H v := fun H1 e D q => h H1 e _ fun H2 e2 => by
  cases b with
  | true =>
    show t D σ H2
    exact h1 rfl H2 (e.trans e2) D fun H3 e3 => q H3 (e2.trans e3)
  | false =>
    show u D σ H2
    exact h2 rfl H2 (e.trans e2) D fun H3 e3 => q H3 (e2.trans e3)
theorem rtw_if (h : EvT c σ H b) (h1 : b = true → RtW t σ H W) (h2 : b = false → RtW u σ H W) : RtW (tIfS c t u) σ H W := fun H1 e D q => h H1 e _ fun H2 e2 => by
  cases b with
  | true =>
    show t D σ H2
    exact h1 rfl H2 (e.trans e2) D fun v H3 e3 w => q v H3 (e2.trans e3) w
  | false =>
    show u D σ H2
    exact h2 rfl H2 (e.trans e2) D fun v H3 e3 w => q v H3 (e2.trans e3) w
theorem nx_if (h : EvT c σ H b) (h1 : b = true → Nx t σ H σ') (h2 : b = false → Nx u σ H σ') : Nx (tIfS c t u) σ H σ' := fun H1 e D q => h H1 e _ fun H2 e2 => by
  cases b with
  | true =>
    show t D σ H2
    exact h1 rfl H2 (e.trans e2) D fun H3 e3 => q H3 (e2.trans e3)
  | false =>
    show u D σ H2
    exact h2 rfl H2 (e.trans e2) D fun H3 e3 => q H3 (e2.trans e3)
/-- if c: leaves; rest -/
theorem rt_ifseq (h : EvT c σ H b) (h1 : b = true → Rt t σ H v) (h2 : b = false → Rt tz σ H v) : Rt (tSeq (tIfS c t tNext) tz) σ H v := fun H1 e D q => h H1 e _ fun H2 e2 => by
  cases b with
  | true =>
    show t { D with nx := tz D } σ H2
    exact h1 rfl H2 (e.trans e2) _ fun H3 e3 => q H3 (e2.trans e3)
  | false =>
    show tz D σ H2
    exact h2 rfl H2 (e.trans e2) D fun H3 e3 => q H3 (e2.trans e3)
theorem rtw_ifseq (h : EvT c σ H b) (h1 : b = true → RtW t σ H W) (h2 : b = false → RtW tz σ H W) : RtW (tSeq (tIfS c t tNext) tz) σ H W := fun H1 e D q => h H1 e _ fun H2 e2 => by
  cases b with
  | true =>
    show t { D with nx := tz D } σ H2
    exact h1 rfl H2 (e.trans e2) _ fun v H3 e3 w => q v H3 (e2.trans e3) w
  | false =>
    show tz D σ H2
    exact h2 rfl H2 (e.trans e2) D fun v H3 e3 w => q v H3 (e2.trans e3) w
theorem Rt.fin {Q : VK} {N : L2.St → Hp → Prop} (h : Rt t σ H v) (k : RetV v H Q) : t { nx := N, rt := Q } σ H := h H (Ex.refl H) _ fun H2 e => k H2 e
theorem RtW.fin {Q : VK} {N : L2.St → Hp → Prop} (h : RtW t σ H W) (k : ∀ v H2, Ex H H2 → W v H2 → Q v H2) : t { nx := N, rt := Q } σ H := h H (Ex.refl H) _ fun v H2 e w => k v H2 e w
/-! loops whose turns are known: s i are the slots ahead of turn i -/
def GNx (g : TG) (u : TS) (x : V) (σ : L2.St) (H : Hp) (σ' : L2.St) : Prop := ∀ H1, Ex H H1 → ∀ D : Ends, (∀ H2, Ex H1 H2 → D.nx σ' H2) → g x σ H1 fun σ2 H2 => u D σ2 H2
def GRtW (g : TG) (u : TS) (x : V) (σ : L2.St) (H : Hp) (W : V → Hp → Prop) : Prop := ∀ H1, Ex H H1 → ∀ D : Ends, (∀ v H2, Ex H1 H2 → W v H2 → D.rt v H2) → g x σ H1 fun σ2 H2 => u D σ2 H2
structure Gen (J : It) (items : Nat → V) (n : Nat) (H : Hp) : Prop where
  go : ∀ i H1, Ex H H1 → i < n → J.go i H1
  yld : ∀ i x H1 H2, Ex H H1 → i < n → J.yld i H1 x H2 → H2 = H1 ∧ x = items i
  stop : ∀ H1, Ex H H1 → J.stop n H1
theorem gnx_name {j : Nat} (h : Nx u (σ.set j (some x)) H σ') : GNx (gName j) u x σ H σ' := fun H1 e D q => h H1 e D q
theorem grt_name {j : Nat} (h : Rt u (σ.set j (some x)) H v) : GRtW (gName j) u x σ H (fun v' _ => v' = v) := fun H1 e D q => h H1 e D fun H2 e2 => q v H2 e2 rfl
theorem grtw_name {j : Nat} (h : RtW u (σ.set j (some x)) H W) : GRtW (gName j) u x σ H W := fun H1 e D q => h H1 e D q
theorem gen_r {lo : Int} {n : Nat} : Gen (Itr lo n) (fun i => .int (lo + (i : Int))) n H := ⟨fun _ _ _ h => h, fun _ _ _ _ _ _ y => y, fun _ _ => Nat.le_refl _⟩
theorem gen_c {lo d : Int} {n : Nat} : Gen (Itc lo d n) (fun i => .int (lo + (i : Nat) * d)) n H := ⟨fun _ _ _ h => h, fun _ _ _ _ _ _ y => y, fun _ _ => Nat.le_refl _⟩
theorem gen_l {a : Addr} {xs : List V} {d : V} (h : SqL K H a xs) : Gen (Itl K a) (fun i => xs.getD i d) xs.length H :=
  ⟨fun i H1 e hi => ⟨xs, xs[i], ex_l e h, by simp [hi]⟩, fun i x H1 H2 e hi y => by
    obtain ⟨y1, y2⟩ := y
    refine ⟨y1, ?_⟩
    have z : xs[i]? = some x := y2 xs (ex_l e h)
    rw [List.getD_eq_getElem?_getD, z]
    rfl, fun H1 e => ⟨xs, ex_l e h, Nat.le_refl _⟩⟩
theorem gen_t {a : Addr} {xs : List V} {d : V} (h : SqT K H a xs) : Gen (Itt K a) (fun i => xs.getD i d) xs.length H :=
  ⟨fun i H1 e hi => ⟨xs, xs[i], ex_t e h, by simp [hi]⟩, fun i x H1 H2 e hi y => by
    obtain ⟨y1, y2⟩ := y
    refine ⟨y1, ?_⟩
    have z : xs[i]? = some x := y2 xs (ex_t e h)
    rw [List.getD_eq_getElem?_getD, z]
    rfl, fun H1 e => ⟨xs, ex_t e h, Nat.le_refl _⟩⟩
theorem for_nx {J : It} {items : Nat → V} {n : Nat} {g : TG} {H1 : Hp} {D : Ends} (s : Nat → L2.St) (G : Gen J items n H) (e : Ex H H1) (hs : ∀ i, i < n → GNx g u (items i) (s i) H (s (i + 1))) (q : ∀ H2, Ex H1 H2 → D.nx (s n) H2) :
    ∃ W : Nat → Nat → L2.St → Hp → Prop, (∃ m, W 0 m (s 0) H1) ∧ ∀ i m σ H, W i m σ H →
      (J.stop i H ∧ D.nx σ H) ∨ (J.go i H ∧ ∃ N : L2.St → Hp → Prop, (∀ σ' H', N σ' H' → ∃ m', m' < m ∧ W (i + 1) m' σ' H') ∧ ∀ x H', J.yld i H x H' → g x σ H' fun σ2 H2 => u { D with nx := N, ct := N, bk := D.nx } σ2 H2) := by
  refine ⟨fun i m σ H2 => m = n - i ∧ i ≤ n ∧ σ = s i ∧ Ex H1 H2, ⟨n, by simp, Nat.zero_le _, rfl, Ex.refl _⟩, ?_⟩
  rintro i m σ H2 ⟨rfl, hi, rfl, e2⟩
  by_cases hlt : i < n
  · refine .inr ⟨G.go i H2 (e.trans e2) hlt, fun σ' H' => σ' = s (i + 1) ∧ Ex H1 H', fun σ' H' p => ⟨n - (i + 1), by omega, rfl, hlt, p.1, p.2⟩, fun x H' y => ?_⟩
    obtain ⟨rfl, rfl⟩ := G.yld i x H2 H' (e.trans e2) hlt y
    exact hs i hlt _ (e.trans e2) _ fun H3 e3 => ⟨rfl, e2.trans e3⟩
  · obtain rfl : i = n := by omega
    exact .inl ⟨G.stop _ (e.trans e2), q _ e2⟩
theorem for_rt {J : It} {items : Nat → V} {n k : Nat} {g : TG} {H1 : Hp} {D : Ends} (s : Nat → L2.St) (G : Gen J items n H) (e : Ex H H1) (hk : k < n) (hs : ∀ i, i < k → GNx g u (items i) (s i) H (s (i + 1))) (hr : GRtW g u (items k) (s k) H W) (q : ∀ v H2, Ex H1 H2 → W v H2 → D.rt v H2) :
    ∃ W : Nat → Nat → L2.St → Hp → Prop, (∃ m, W 0 m (s 0) H1) ∧ ∀ i m σ H, W i m σ H →
      (J.stop i H ∧ D.nx σ H) ∨ (J.go i H ∧ ∃ N : L2.St → Hp → Prop, (∀ σ' H', N σ' H' → ∃ m', m' < m ∧ W (i + 1) m' σ' H') ∧ ∀ x H', J.yld i H x H' → g x σ H' fun σ2 H2 => u { D with nx := N, ct := N, bk := D.nx } σ2 H2) := by
  refine ⟨fun i m σ H2 => m = n - i ∧ i ≤ k ∧ σ = s i ∧ Ex H1 H2, ⟨n, by simp, Nat.zero_le _, rfl, Ex.refl _⟩, ?_⟩
  rintro i m σ H2 ⟨rfl, hi, rfl, e2⟩
  by_cases hlt : i < k
  · refine .inr ⟨G.go i H2 (e.trans e2) (by omega), fun σ' H' => σ' = s (i + 1) ∧ Ex H1 H', fun σ' H' p => ⟨n - (i + 1), by omega, rfl, hlt, p.1, p.2⟩, fun x H' y => ?_⟩
    obtain ⟨rfl, rfl⟩ := G.yld i x H2 H' (e.trans e2) (by omega) y
    exact hs i hlt _ (e.trans e2) _ fun H3 e3 => ⟨rfl, e2.trans e3⟩
  · obtain rfl : i = k := by omega
    refine .inr ⟨G.go _ H2 (e.trans e2) hk, fun _ _ => False, fun _ _ p => p.elim, fun x H' y => ?_⟩
    obtain ⟨rfl, rfl⟩ := G.yld _ x H2 H' (e.trans e2) hk y
    exact hr _ (e.trans e2) _ fun v H3 e3 w => q v H3 (e2.trans e3) w
/-- what a for walks, told at a heap -/
def EvI (wi : TI) (σ : L2.St) (H : Hp) (items : Nat → V) (n : Nat) : Prop := ∀ H1, Ex H H1 → ∀ R : It → Hp → Prop, (∀ J H2, Ex H1 H2 → Gen J items n H2 → R J H2) → wi σ H1 R
theorem ei_r1 {ta : TA} {n : Int} (h : EvA ta σ H [.int n]) (h1 : -(2 ^ 62) ≤ n) (h2 : n < 2 ^ 62) : EvI (iRng1 ta) σ H (fun i => .int (0 + (i : Int))) n.toNat := fun H1 e R q =>
  h H1 e _ fun H2 e2 => ⟨n, rfl, h1, h2, q _ H2 e2 gen_r⟩
theorem ei_r2 {ta : TA} {a n : Int} (h : EvA ta σ H [.int a, .int n]) (h1 : -(2 ^ 62) ≤ a ∧ a < 2 ^ 62 ∧ -(2 ^ 62) ≤ n ∧ n < 2 ^ 62) : EvI (iRng2 ta) σ H (fun i => .int (a + (i : Int))) (n - a).toNat := fun H1 e R q =>
  h H1 e _ fun H2 e2 => ⟨a, n, rfl, h1, q _ H2 e2 gen_r⟩
theorem ei_r3 {ta : TA} {a n d : Int} {m : Nat} (h : EvA ta σ H [.int a, .int n, .int d]) (h1 : RgC a n d m) : EvI (iRng3 ta) σ H (fun i => .int (a + (i : Nat) * d)) m := fun H1 e R q =>
  h H1 e _ fun H2 e2 => ⟨a, n, d, m, rfl, h1, q _ H2 e2 gen_c⟩
theorem ei_l {a : Addr} {xs : List V} (d : V) (h : Ev te σ H (.ref a)) (hx : SqL K H a xs) : EvI (iList K te) σ H (fun i => xs.getD i d) xs.length := fun H1 e R q =>
  h H1 e _ fun H2 e2 => ⟨a, rfl, ⟨xs, ex_l (e.trans e2) hx⟩, q _ H2 e2 (gen_l (ex_l (e.trans e2) hx))⟩
theorem ei_t {a : Addr} {xs : List V} (d : V) (h : Ev te σ H (.ref a)) (hx : SqT K H a xs) : EvI (iTup K te) σ H (fun i => xs.getD i d) xs.length := fun H1 e R q =>
  h H1 e _ fun H2 e2 => ⟨a, rfl, ⟨xs, ex_t (e.trans e2) hx⟩, q _ H2 e2 (gen_t (ex_t (e.trans e2) hx))⟩
/-- over a new tuple -/
theorem ei_tN {xs : List V} (d : V) (h : EvU te σ H xs) : EvI (iTup K te) σ H (fun i => xs.getD i d) xs.length := fun H1 e R q =>
  h H1 e _ fun p H2 _ e2 hp => ⟨p, rfl, ⟨xs, st_of hp⟩, q _ H2 e2 (gen_t (st_of hp))⟩
theorem GNx.mono {g : TG} (e : Ex H H') (h : GNx g u x σ H σ') : GNx g u x σ H' σ' := fun H1 a D q => h H1 (e.trans a) D q
theorem GRtW.mono {g : TG} (e : Ex H H') (h : GRtW g u x σ H W) : GRtW g u x σ H' W := fun H1 a D q => h H1 (e.trans a) D q
theorem nx_for {wi : TI} {items : Nat → V} {n : Nat} {g : TG} (s : Nat → L2.St) (h : EvI wi (s 0) H items n) (hs : ∀ i, i < n → GNx g u (items i) (s i) H (s (i + 1))) : Nx (tFor wi g u) (s 0) H (s n) := fun H1 e D q =>
  h H1 e _ fun J H2 e2 G => for_nx s G (Ex.refl H2) (fun i hi => (hs i hi).mono (e.trans e2)) fun H3 e3 => q H3 (e2.trans e3)
theorem rtw_for {wi : TI} {items : Nat → V} {n : Nat} {g : TG} (k : Nat) (s : Nat → L2.St) (h : EvI wi (s 0) H items n) (hk : k < n) (hs : ∀ i, i < k → GNx g u (items i) (s i) H (s (i + 1))) (hr : GRtW g u (items k) (s k) H W) : RtW (tFor wi g u) (s 0) H W := fun H1 e D q =>
  h H1 e _ fun J H2 e2 G => for_rt s G (Ex.refl H2) hk (fun i hi => (hs i hi).mono (e.trans e2)) (hr.mono (e.trans e2)) fun v H3 e3 w => q v H3 (e2.trans e3) w
theorem RtW.toV (h : RtW t σ H (fun v' _ => v' = v)) : Rt t σ H v := fun H1 e D q => h H1 e D fun v' H2 e2 w => by rw [w]; exact q H2 e2
theorem Rt.toW (h : Rt t σ H v) : RtW t σ H (fun v' _ => v' = v) := fun H1 e D q => h H1 e D fun H2 e2 => q v H2 e2 rfl
theorem rt_for {wi : TI} {items : Nat → V} {n : Nat} {g : TG} (k : Nat) (s : Nat → L2.St) (h : EvI wi (s 0) H items n) (hk : k < n) (hs : ∀ i, i < k → GNx g u (items i) (s i) H (s (i + 1))) (hr : GRtW g u (items k) (s k) H (fun v' _ => v' = v)) : Rt (tFor wi g u) (s 0) H v :=
  (rtw_for k s h hk hs hr).toV
theorem nx_while (m : Nat) (s : Nat → L2.St) (hs : ∀ i, i < m → EvT c (s i) H true ∧ Nx u (s i) H (s (i + 1))) (hd : EvT c (s m) H false) : Nx (tWhile c u) (s 0) H (s m) := fun H1 e D q =>
  ⟨fun k σ H2 => ∃ i, i ≤ m ∧ k = m - i ∧ σ = s i ∧ Ex H1 H2, ⟨m, 0, Nat.zero_le _, rfl, rfl, Ex.refl _⟩, fun k σ H2 ⟨i, hi, hk, hσ, e2⟩ => by
    subst hk hσ
    by_cases hlt : i < m
    · obtain ⟨h1, h2⟩ := hs i hlt
      refine h1 H2 (e.trans e2) _ fun H3 e3 => ?_
      refine ⟨fun σ' H' => σ' = s (i + 1) ∧ Ex H1 H', fun σ' H' p => ⟨m - (i + 1), by omega, i + 1, hlt, rfl, p.1, p.2⟩, ?_⟩
      exact h2 H3 ((e.trans e2).trans e3) _ fun H4 e4 => ⟨rfl, (e2.trans e3).trans e4⟩
    · obtain rfl : i = m := by omega
      refine hd H2 (e.trans e2) _ fun H3 e3 => ?_
      exact q H3 (e2.trans e3)⟩
/-! tuples as targets, items of displays -/
theorem gnx_tup2 {i j : Nat} {a : Addr} {y : V} (h : SqT K H a [x, y]) (k : Nx u ((σ.set i (some x)).set j (some y)) H σ') : GNx (gTup K 2 (gCons (gName i) (gCons (gName j) gNil))) u (.ref a) σ H σ' := fun H1 e D q =>
  ⟨a, [x, y], rfl, ex_t e h, rfl, x, [y], rfl, y, [], rfl, rfl, k H1 e D q⟩
/-- (..)[i], [..][i] of a display -/
theorem ev_ixNL {xs : List V} {i : Int} (ha : EvL ta σ H xs) (hb : Ev tb σ H (.int i)) (hv : atI xs i = some v) : Ev (tOp (rIxL K) ta tb) σ H v := fun H1 e Q q =>
  ha H1 e _ fun p H2 _ e2 hp => hb H2 (e.trans e2) _ fun H3 e3 => ⟨p, xs, i, v, rfl, rfl, sq_of (e3 p _ hp), hv, q H3 (e2.trans e3)⟩
theorem ev_ixL {p : Addr} {xs : List V} {i : Int} (ha : Ev ta σ H (.ref p)) (hb : Ev tb σ H (.int i)) (hx : SqL K H p xs) (hv : atI xs i = some v) : Ev (tOp (rIxL K) ta tb) σ H v := ev_op ha hb (rv_ixL hx hv)
theorem ev_ixT {p : Addr} {xs : List V} {i : Int} (ha : Ev ta σ H (.ref p)) (hb : Ev tb σ H (.int i)) (hx : SqT K H p xs) (hv : atI xs i = some v) : Ev (tOp (rIxT K) ta tb) σ H v := ev_op ha hb (rv_ixT hx hv)
/-- is None, is not None -/
theorem ev_isN (ha : Ev ta σ H x) : Ev (tIsN ta) σ H (.bl (decide (x = .non))) := fun H1 e Q q => ha H1 e _ fun H2 e2 => q H2 e2
theorem ev_notN (ha : Ev ta σ H x) : Ev (tNotN ta) σ H (.bl (!decide (x = .non))) := fun H1 e Q q => ha H1 e _ fun H2 e2 => q H2 e2
/-- a < b < c -/
theorem ev_chain {tc : TE} {r' : R2} {w : V} {b1 b2 : Bool} (ha : Ev ta σ H x) (hb : Ev tb σ H y) (hr : RV r x y H (.bl b1)) (hc : b1 = true → Ev tc σ H w) (hr' : b1 = true → RV r' y w H (.bl b2)) : Ev (tChain r r' ta tb tc) σ H (.bl (b1 && b2)) := fun H1 e Q q =>
  ha H1 e _ fun H2 e2 => hb H2 (e.trans e2) _ fun H3 e3 => hr H3 ((e.trans e2).trans e3) _ fun H4 e4 => ⟨b1, rfl, by
    cases b1 with
    | true =>
      show tc σ H4 fun w' H5 => r' y w' H5 Q
      exact hc rfl H4 (((e.trans e2).trans e3).trans e4) _ fun H5 e5 => hr' rfl H5 ((((e.trans e2).trans e3).trans e4).trans e5) Q fun H6 e6 => q H6 ((((e2.trans e3).trans e4).trans e5).trans e6)
    | false =>
      show Q (.bl false) H4
      exact q H4 ((e2.trans e3).trans e4)⟩
/-- calls of built-ins by values -/
theorem ev_max {i j : Int} (ha : Ev ta σ H (.int i)) (hb : Ev tb σ H (.int j)) : Ev (tCB (fun xs H Q => ∃ i j, xs = [.int i, .int j] ∧ Q (.int (if j > i then j else i)) H) (tCons ta (tCons tb tNil))) σ H (.int (max i j)) := fun H1 e Q q =>
  ha H1 e _ fun H2 e2 => hb H2 (e.trans e2) _ fun H3 e3 => ⟨i, j, rfl, by
    have z : (if j > i then j else i) = max i j := by
      by_cases h : j > i
      · rw [if_pos h]; omega
      · rw [if_neg h]; omega
    rw [z]
    exact q H3 (e2.trans e3)⟩
theorem ev_min {i j : Int} (ha : Ev ta σ H (.int i)) (hb : Ev tb σ H (.int j)) : Ev (tCB (fun xs H Q => ∃ i j, xs = [.int i, .int j] ∧ Q (.int (if j < i then j else i)) H) (tCons ta (tCons tb tNil))) σ H (.int (min i j)) := fun H1 e Q q =>
  ha H1 e _ fun H2 e2 => hb H2 (e.trans e2) _ fun H3 e3 => ⟨i, j, rfl, by
    have z : (if j < i then j else i) = min i j := by
      by_cases h : j < i
      · rw [if_pos h]; omega
      · rw [if_neg h]; omega
    rw [z]
    exact q H3 (e2.trans e3)⟩
theorem ev_intB {k : Bool} (ha : Ev ta σ H (.bl k)) : Ev (tCB (fun xs H Q => (∃ i, xs = [.int i] ∧ Q (.int i) H) ∨ ∃ k, xs = [.bl k] ∧ Q (.int (if k then 1 else 0)) H) (tCons ta tNil)) σ H (.int (if k then 1 else 0)) := fun H1 e Q q =>
  ha H1 e _ fun H2 e2 => .inr ⟨k, rfl, q H2 e2⟩
theorem ev_lenL {p : Addr} {xs : List V} (ha : Ev ta σ H (.ref p)) (hx : SqL K H p xs) : Ev (tCB (fun xs H Q => ∃ p ys, xs = [.ref p] ∧ (SqL K H p ys ∨ SqT K H p ys) ∧ Q (.int ys.length) H) (tCons ta tNil)) σ H (.int (xs.length : Int)) := fun H1 e Q q =>
  ha H1 e _ fun H2 e2 => ⟨p, xs, rfl, .inl (ex_l (e.trans e2) hx), q H2 e2⟩
theorem ev_lenI {p : Addr} {ns : List Int} (ha : Ev ta σ H (.ref p)) (hx : SqL K H p (ns.map V.int)) : Ev (tCB (fun xs H Q => ∃ p ys, xs = [.ref p] ∧ (SqL K H p ys ∨ SqT K H p ys) ∧ Q (.int ys.length) H) (tCons ta tNil)) σ H (.int (ns.length : Int)) := by
  have h := ev_lenL (K := K) ha hx
  rw [List.length_map] at h
  exact h
/-- a display's item -/
theorem ev_ixN {tv : TA} {vs : List V} {i : Int} (ha : EvA tv σ H vs) (hb : Ev tb σ H (.int i)) (hl : vs.length ≤ 100000) (hv : atI vs i = some v) : Ev (tOp (rIxL K) (tLst tv) tb) σ H v := ev_ixNL (el_lst ha hl) hb hv
/-- isinstance -/
theorem ev_isi {te2 : TE} {cv : V} {tv uv : Value} {k : Bool} (ha : Ev ta σ H x) (hb : Ev te2 σ H cv) (hc : ClsV cv uv) (ht : ∀ H1, Ex H H1 → TyX K H1 x tv) (hk : PySem.W.kitOne K tv uv = some k) : Ev (tCB (rIsi K) (tCons ta (tCons te2 tNil))) σ H (.bl k) := fun H1 e Q q =>
  ha H1 e _ fun H2 e2 => hb H2 (e.trans e2) _ fun H3 e3 => ⟨x, cv, tv, uv, k, rfl, hc, ht H3 ((e.trans e2).trans e3), hk, q H3 (e2.trans e3)⟩
/-- data compared -/
theorem rv_eqD {d f : PySem.PyData} (hd : ∀ H1, Ex H H1 → Dp K H1 x d) (hf : ∀ H1, Ex H H1 → Dp K H1 y f) (sd : PySem.SeqAt.shaped d = true) (sf : PySem.SeqAt.shaped f = true) : RV (rEqD K) x y H (.bl (PySem.PyData.eqv d f)) := fun H1 e Q q => ⟨d, f, hd H1 e, hf H1 e, sd, sf, q H1 (Ex.refl _)⟩
theorem rv_neD {d f : PySem.PyData} (hd : ∀ H1, Ex H H1 → Dp K H1 x d) (hf : ∀ H1, Ex H H1 → Dp K H1 y f) (sd : PySem.SeqAt.shaped d = true) (sf : PySem.SeqAt.shaped f = true) : RV (rNeD K) x y H (.bl (!PySem.PyData.eqv d f)) := fun H1 e Q q => ⟨d, f, hd H1 e, hf H1 e, sd, sf, q H1 (Ex.refl _)⟩
/-! promises of defs that hand back a value and change nothing: R arguments heap value -/
def spF (R : List V → Hp → V → Prop) : Sp := fun vs H Q _ => ∃ v, (∀ H1, Ex H H1 → R vs H1 v) ∧ RetV v H Q
theorem ev_callF {R : List V → Hp → V → Prop} {ta : TA} {vs : List V} {E : XK} (h : EvA ta σ H vs) (hR : ∀ H1, Ex H H1 → R vs H1 v) : Ev (tCall (spF R) [] E ta) σ H v := fun H1 e Q q =>
  h H1 e _ fun H2 e2 => by
    rw [List.append_nil]
    exact ⟨v, fun H3 e3 => hR H3 ((e.trans e2).trans e3), fun H3 e3 => q H3 (e2.trans e3)⟩
/-- .. a value by what is true of it -/
def spW (R : List V → Hp → (V → Hp → Prop) → Prop) : Sp := fun vs H Q _ => ∃ W : V → Hp → Prop, (∀ H1, Ex H H1 → R vs H1 W) ∧ ∀ v H2, Ex H H2 → W v H2 → Q v H2
theorem evw_callW {R : List V → Hp → (V → Hp → Prop) → Prop} {ta : TA} {vs : List V} {E : XK} (h : EvA ta σ H vs) (hR : ∀ H1, Ex H H1 → R vs H1 W) : EvW (tCall (spW R) [] E ta) σ H W := fun H1 e Q q =>
  h H1 e _ fun H2 e2 => by
    rw [List.append_nil]
    exact ⟨W, fun H3 e3 => hR H3 ((e.trans e2).trans e3), fun v H3 e3 w => q v H3 (e2.trans e3) w⟩
theorem evw_tup {vs : List V} (h : EvU te σ H vs) : EvW te σ H (fun v H1 => ∃ p, v = .ref p ∧ H1 p = some (.tup vs)) := fun H1 e Q q => h H1 e _ fun p H2 _ e2 hp => q _ H2 e2 ⟨p, rfl, hp⟩
theorem evw_v (h : Ev te σ H v) (hw : ∀ H1, Ex H H1 → W v H1) : EvW te σ H W := fun H1 e Q q => h H1 e _ fun H2 e2 => q v H2 e2 (hw H2 (e.trans e2))
end
section
open C8 (Def Fun Cal Met Mak)
variable {P : Program} {w : World} {K : PySem.W.Frag} {mg : Str → Option Value} {base : Heap}
/-- a def that hands back a value, by its body -/
theorem calF {x : Str} {st : Stmt} {f : Addr} {fd : FuncData} {N ps : List Str} {k : Nat} {R : List V → Hp → V → Prop} (F : C8.Def K mg x st f fd) (b : Binds K fd ps []) (S : FnScope N ps (C8.fnScope st)) (len : ∀ vs H v, R vs H v → vs.length = ps.length)
    (hbody : ∀ (cdv : Value) (A : Around) (outer : List Env) (s : Shared) (H : Hp) (vs : List V) (v : V) (E : XK), Room k (A.deeper (envOfC x (C8.fnScope st) s.heap.objs.size f cdv)) → R vs H v →
      ∃ t, PSs (cxOf C8.CX0 P w K mg base N x (C8.fnScope st) f cdv A outer s H E).nox (C8.fnBody st) t ∧ Rt t (start N vs) H v) : C8.Cal P w K mg base (k + 1) x (spF R) [] :=
  C8.cal0 F b .nil S (fun vs H Q E ⟨v, h, _⟩ => len vs H v (h H (Ex.refl H))) fun cdv A outer s H vs Q E hr ⟨v, h, k⟩ => by
    obtain ⟨t, h1, h2⟩ := hbody cdv A outer s H vs v E hr (h H (Ex.refl H))
    exact ⟨t, h1, h2.fin k⟩
theorem calW {x : Str} {st : Stmt} {f : Addr} {fd : FuncData} {N ps : List Str} {k : Nat} {R : List V → Hp → (V → Hp → Prop) → Prop} (F : C8.Def K mg x st f fd) (b : Binds K fd ps []) (S : FnScope N ps (C8.fnScope st)) (len : ∀ vs H v, R vs H v → vs.length = ps.length)
    (hbody : ∀ (cdv : Value) (A : Around) (outer : List Env) (s : Shared) (H : Hp) (vs : List V) (W : V → Hp → Prop) (E : XK), Room k (A.deeper (envOfC x (C8.fnScope st) s.heap.objs.size f cdv)) → R vs H W →
      ∃ t, PSs (cxOf C8.CX0 P w K mg base N x (C8.fnScope st) f cdv A outer s H E).nox (C8.fnBody st) t ∧ RtW t (start N vs) H W) : C8.Cal P w K mg base (k + 1) x (spW R) [] :=
  C8.cal0 F b .nil S (fun vs H Q E ⟨W, h, _⟩ => len vs H W (h H (Ex.refl H))) fun cdv A outer s H vs Q E hr ⟨W, h, k⟩ => by
    obtain ⟨t, h1, h2⟩ := hbody cdv A outer s H vs W E hr (h H (Ex.refl H))
    exact ⟨t, h1, h2.fin k⟩
theorem metF {m qual : Str} {C : Addr} {st : Stmt} {f : Addr} {fd : FuncData} {N ps : List Str} {k : Nat} {R : List V → Hp → V → Prop} (c : Cls K C) (me : Meth K C m f) (F : C8.Fun K m qual st f fd) (b : Binds K fd ps []) (S : FnScope N ps (C8.fnScope st)) (len : ∀ vs H v, R vs H v → vs.length = ps.length)
    (hbody : ∀ (cdv : Value) (A : Around) (outer : List Env) (s : Shared) (H : Hp) (vs : List V) (v : V) (E : XK), Room k (A.deeper (envOfC qual (C8.fnScope st) s.heap.objs.size f cdv)) → R vs H v →
      ∃ t, PSs (cxOf C8.CX0 P w K mg base N qual (C8.fnScope st) f cdv A outer s H E).nox (C8.fnBody st) t ∧ Rt t (start N vs) H v) : C8.Met P w K mg base (k + 1) C m (spF R) [] :=
  C8.met0 c me F b S (fun vs H Q E ⟨v, h, _⟩ => len vs H v (h H (Ex.refl H))) fun cdv A outer s H vs Q E hr ⟨v, h, k⟩ => by
    obtain ⟨t, h1, h2⟩ := hbody cdv A outer s H vs v E hr (h H (Ex.refl H))
    exact ⟨t, h1, h2.fin k⟩
theorem metW {m qual : Str} {C : Addr} {st : Stmt} {f : Addr} {fd : FuncData} {N ps : List Str} {k : Nat} {R : List V → Hp → (V → Hp → Prop) → Prop} (c : Cls K C) (me : Meth K C m f) (F : C8.Fun K m qual st f fd) (b : Binds K fd ps []) (S : FnScope N ps (C8.fnScope st)) (len : ∀ vs H v, R vs H v → vs.length = ps.length)
    (hbody : ∀ (cdv : Value) (A : Around) (outer : List Env) (s : Shared) (H : Hp) (vs : List V) (W : V → Hp → Prop) (E : XK), Room k (A.deeper (envOfC qual (C8.fnScope st) s.heap.objs.size f cdv)) → R vs H W →
      ∃ t, PSs (cxOf C8.CX0 P w K mg base N qual (C8.fnScope st) f cdv A outer s H E).nox (C8.fnBody st) t ∧ RtW t (start N vs) H W) : C8.Met P w K mg base (k + 1) C m (spW R) [] :=
  C8.met0 c me F b S (fun vs H Q E ⟨W, h, _⟩ => len vs H W (h H (Ex.refl H))) fun cdv A outer s H vs Q E hr ⟨W, h, k⟩ => by
    obtain ⟨t, h1, h2⟩ := hbody cdv A outer s H vs W E hr (h H (Ex.refl H))
    exact ⟨t, h1, h2.fin k⟩
end
end Tk
namespace Tk
open PySem PySem.Spec PyProof.Rows L2 Evl
/-! del xs[:k], 0 ≤ k -/
def cutSel (c : Int) (i : Nat) : Bool := if (1 : Int) > 0 then (0 : Int) ≤ i && (i : Int) < c && ((i : Int) - 0) % 1 == 0 else c < i && (i : Int) ≤ 0 && ((0 : Int) - i) % (-1) == 0
theorem cutSel_eq (c i : Nat) : cutSel (c : Int) i = decide (i < c) := by
  unfold cutSel
  rw [if_pos (by decide)]
  have h1 : decide ((0 : Int) ≤ (i : Int)) = true := decide_eq_true (by omega)
  have h2 : (((i : Int) - 0) % 1 == 0) = true := by
    rw [Int.emod_one]
    rfl
  rw [h1, h2, Bool.true_and, Bool.and_true]
  congr 1
  exact propext (by omega)
theorem cut_from : ∀ (l : List Value) (c j : Nat), (l.zipIdx j).filterMap (fun p => if cutSel (c : Int) p.2 = true then none else some p.1) = l.drop (c - j)
  | [], c, j => by simp
  | x :: l, c, j => by
    rw [List.zipIdx_cons, List.filterMap_cons]
    have ih := cut_from l c (j + 1)
    simp only [cutSel_eq, decide_eq_true_eq] at ih ⊢
    by_cases h : j < c
    · rw [if_pos h]
      rw [ih, show c - j = (c - (j + 1)) + 1 by omega, List.drop_succ_cons]
    · rw [if_neg h]
      rw [ih, show c - (j + 1) = 0 by omega, show c - j = 0 by omega]
      rfl
theorem cut_all (l : List Value) (c : Nat) : (l.zipIdx.filterMap fun p => if cutSel (c : Int) p.2 = true then none else some p.1) = l.drop c := cut_from l c 0
section
variable {prog : Program} {w : World} {A : Around} {E : Value → Shared → Prop} {s : Shared}
theorem bounds_to {c n : Nat} (hc : c ≤ n) : sliceBounds none (some (c : Int)) none n = ((0 : Int), (c : Int), 1) := by
  simp only [sliceBounds, Option.getD_none]
  have b1 : ¬ ((c : Int) < 0) := by omega
  simp only [b1, if_false, show (1 : Int) > 0 by decide, if_true]
  congr 1
  congr 1
  omega
theorem cutGo {l sl : Addr} {its : List Value} {n : Nat} {vu : Value} {c : Nat} {Q : Unit → Shared → Prop} {os : Obj} (q1 : s.heap.get? sl = some os) (q3 : os.data = .fields #[.none, vu, .none]) (pu : IsPart vu (some (c : Int)))
    (e : s.heap.get? l = some { cls := .type "list", data := .seq its.toArray n }) (hc : c ≤ its.length) (hz : its.length ≤ sizeLine) (nstep : ¬ ((rawPart none == rawInt 0) = true))
    (h : ∀ f : Array Value → Array Value, f its.toArray = (its.drop c).toArray → Q () { s with heap := s.heap.update l (Obj.mapSeq f) }) {R : Value × Value × Value → Shared → Prop}
    (hR : R (rawPart none, rawPart (some (c : Int)), rawPart none) s) :
    wpAny (model prog w) A (if (rawPart none == rawInt 0) = true then (do rule "list.slice.step-zero"; let __r ← raiseErrorWords "ValueError" "slice step cannot be zero"; (fun _ : PUnit => do let first ← listPart (← field (.ref sl) 0); let last ← listPart (← field (.ref sl) 1); pure (first, last, rawPart none)) __r) else (do let first ← listPart (← field (.ref sl) 0); let last ← listPart (← field (.ref sl) 1); pure (first, last, rawPart none))) R E s := by
  rw [if_neg nstep]
  exact wpAny_bind (wpAny_field q1 q3 (x := .none) rfl (wpAny_bind (wpAny_listPart .none (wpAny_bind (wpAny_field q1 q3 (x := vu) rfl (wpAny_bind (wpAny_listPart pu (wpAny_pure hR))))))))
theorem cutEnd {l : Addr} {its : List Value} {n : Nat} {c : Nat} {Q : Unit → Shared → Prop} (e : s.heap.get? l = some { cls := .type "list", data := .seq its.toArray n }) (hc : c ≤ its.length) (hz : its.length ≤ sizeLine)
    (h : ∀ f : Array Value → Array Value, f its.toArray = (its.drop c).toArray → Q () { s with heap := s.heap.update l (Obj.mapSeq f) }) :
    wpAny (model prog w) A (do
      let old ← Builtin.List.listItems (.ref l)
      let x ← sliceIndices (rawPart none) (rawPart (some (c : Int))) (rawPart none) old.size
      rule "list.__delitem__.slice"
      Builtin.List.listUpdate (.ref l) fun xs => (xs.toList.zipIdx.filterMap fun p => if (if x.2.2 > 0 then x.1 ≤ p.2 && p.2 < x.2.1 && (p.2 - x.1) % x.2.2 == 0 else x.2.1 < p.2 && p.2 ≤ x.1 && (x.1 - p.2) % (-x.2.2) == 0 : Bool) = true then none else some p.1).toArray
      letGo (if (x.2.2 == 1) = true then (old.toList.zipIdx.filterMap fun p => if (if x.2.2 > 0 then x.1 ≤ p.2 && p.2 < x.2.1 && (p.2 - x.1) % x.2.2 == 0 else x.2.1 < p.2 && p.2 ≤ x.1 && (x.1 - p.2) % (-x.2.2) == 0 : Bool) = true then some p.1 else none).reverse
        else old.toList.zipIdx.filterMap fun p => if (if x.2.2 > 0 then x.1 ≤ p.2 && p.2 < x.2.1 && (p.2 - x.1) % x.2.2 == 0 else x.2.1 < p.2 && p.2 ≤ x.1 && (x.1 - p.2) % (-x.2.2) == 0 : Bool) = true then some p.1 else none)
      ret .none) (fun fin s' => ∃ v, fin = PySem.Fin.done (Flow.ret v) ∧ Q () s') E s := by
  unfold Builtin.List.listItems
  refine wpAny_bind (wpAny_bind (wpAny_seqItems e rfl (wpAny_pure ?_)))
  refine wpAny_bind (wpAny_of_eq ((sliceIndices_raw none (some (c : Int)) none its.toArray.size (by simp)).trans (congrArg (pure : Int × Int × Int → Sem (Int × Int × Int)) (bounds_to (by rw [List.size_toArray]; exact hc)))) ?_)
  refine wpAny_bind (wpAny_rule ?_)
  dsimp only
  have key : ((its.zipIdx.filterMap fun p => if (if (1 : Int) > 0 then (0 : Int) ≤ p.2 && (p.2 : Int) < (c : Int) && ((p.2 : Int) - 0) % 1 == 0 else (c : Int) < p.2 && (p.2 : Int) ≤ 0 && ((0 : Int) - p.2) % -1 == 0 : Bool) = true then none else some p.1).toArray) = (its.drop c).toArray := congrArg List.toArray (cut_all its c)
  refine wpAny_bind (m := updateSeq l _) (wpAny_updateSeq (hz := by rw [List.size_toArray]; exact hz) (_hz' := ?hz2) e rfl ?_)
  case hz2 =>
    refine Nat.le_trans (Nat.le_of_eq (congrArg Array.size key)) ?_
    rw [List.size_toArray, List.length_drop]
    omega
  refine wpAny_bind (wpAny_letGo ?_)
  exact wpAny_pure ⟨.none, rfl, h _ key⟩
theorem delItem_to {l sl : Addr} {its : List Value} {n : Nat} {vu : Value} {c : Nat} {Q : Unit → Shared → Prop} (e : s.heap.get? l = some { cls := .type "list", data := .seq its.toArray n }) (hs : s.heap.IsSliceOf sl .none vu .none) (pu : IsPart vu (some (c : Int))) (hc : c ≤ its.length) (hz : its.length ≤ sizeLine)
    (h : ∀ f : Array Value → Array Value, f its.toArray = (its.drop c).toArray → Q () { s with heap := s.heap.update l (Obj.mapSeq f) }) : wpAny (model prog w) A (delItem (.ref l) (.ref sl)) Q E s := by
  obtain ⟨os, q1, q2, q3⟩ := id hs
  have tS : s.TypeIs (.ref sl) "slice" := ⟨os, q1, q2⟩
  have tL : s.TypeIs (.ref l) "list" := ⟨_, e, rfl⟩
  refine wpAny_delItem_slot (T := "list") tL (by decide) F.slot_list_delitem (wpAny_call_entry F.slot_list_delitem tL F.entry_list_delitem ?_ (F.args_list_delitem_2 _ _))
  have nstep : ¬ ((rawPart none == rawInt 0) = true) := Bool.false_ne_true
  show wpAny _ _ (Builtin.List.listSubscript? (.ref sl) >>= _) _ _ s
  unfold Builtin.List.listSubscript?
  refine wpAny_bind (wpAny_bind (wpAny_specialOf tS slice_no_index (by simp only [Option.isNone_none, if_true]; refine wpAny_pure ?_; show wpAny _ _ (typeOf (.ref sl) >>= _) _ _ s; refine wpAny_bind (wpAny_typeOf tS ?_); rw [if_neg (by decide), listSliceParts_eq]; refine wpAny_bind (wpAny_bind (wpAny_field q1 q3 (x := .none) rfl (wpAny_bind (wpAny_listPart .none ?_)))); refine cutGo q1 q3 pu e hc hz nstep h ?_; exact cutEnd e hc hz h)))
end
section
variable {X : Cx}
def tDelTo (to te : TE) : TS := fun D σ H => to σ H fun x H1 => tPart te σ H1 fun o H2 => ∃ (l : Addr) (xs : List V) (c : Nat), x = .ref l ∧ o = some (c : Int) ∧ H2 l = some (.lst xs) ∧ c ≤ xs.length ∧ D.nx σ (upd H2 l (.lst (xs.drop c)))
theorem ps_delTo {o e : Expr} {to te : TE} {tpos p2 pos : Pos} (ho : PE X o to) (he : PE X e te) : PS X (.Delete [.Subscript o (.Slice none (some e) none p2) tpos] pos) (tDelTo to te) := by
  refine ⟨fun pins s σ H D I h => ?_⟩
  refine wpAny_Delete (wpAny_deleteEach_cons (wpAny_delete_Subscript (thn (ho.run pins s σ H _ I h) fun u s1 ⟨x, H1, I1, rx, q1⟩ => ?_)))
  refine wpAny_Slice ?_
  rw [evalPart_none]
  refine wpAny_pure (thn ((po_some he).run pins s1 σ H1 _ I1 q1) fun vu s2 ⟨o, H2, I2, pu, l, xs, c, ex, eo, hl, hc, q2⟩ => wpAny_pure ?_)
  subst ex eo
  cases (show u = Value.ref l from rx)
  have I3 : Inv X pins σ H2 { s2 with heap := s2.heap.push { cls := .type "slice", data := .fields #[.none, vu, .none] } } := I2.kept (t' := s2.toks) fun b ob q => Heap.get?_push_of_some _ q
  obtain ⟨z, its, n, r, len, e3⟩ := I3.lstM hl
  refine delItem_to e3 (Heap.IsSliceOf.new ..) pu (by omega) (by omega) fun f hf => wpAny_deleteEach_nil ⟨σ, _, I3.lset (t' := s2.toks) hl e3 hf (r.drop c) ?_, q2⟩
  rw [List.length_drop]
  omega
end
end Tk
namespace Tk
open PySem PySem.Spec PyProof.Rows L2 Evl
section
variable {σ σ' σ'' : L2.St} {H H' : Hp} {v x y z : V} {te ta tb : TE} {t u tw tz : TS} {c c2 : TT} {b : Bool} {W : V → Hp → Prop} {K : PySem.W.Frag} {r : R2} {a C dx : Addr} {fs : List (Str × V)} {f m : Str}
theorem ev_fld (ha : Ev ta σ H (.ref a)) (hx : H a = some (.ins C dx fs)) (hc : Cls K C) (hn : NoAttr K C f) (hl : fs.lookup f = some v) : Ev (tFld K ta f) σ H v := fun H1 e Q q =>
  ha H1 e _ fun H2 e2 => ⟨a, C, dx, fs, v, rfl, (e.trans e2) a _ hx, hc, hn, hl, q H2 e2⟩
theorem ev_methF {R : List V → Hp → V → Prop} {tA : TA} {vs : List V} {E : XK} (ha : Ev ta σ H (.ref a)) (hx : H a = some (.ins C dx fs)) (hm : fs.lookup m = none) (h : EvA tA σ H vs) (hR : ∀ H1, Ex H H1 → R (.ref a :: vs) H1 v) : Ev (tMeth C m (spF R) [] E ta tA) σ H v := fun H1 e Q q =>
  ha H1 e _ fun H2 e2 => ⟨a, dx, fs, rfl, (e.trans e2) a _ hx, hm, h H2 (e.trans e2) _ fun H3 e3 => by
    rw [List.append_nil]
    exact ⟨v, fun H4 e4 => hR H4 (((e.trans e2).trans e3).trans e4), fun H4 e4 => q H4 ((e2.trans e3).trans e4)⟩⟩
theorem evw_methW {R : List V → Hp → (V → Hp → Prop) → Prop} {tA : TA} {vs : List V} {E : XK} (ha : Ev ta σ H (.ref a)) (hx : H a = some (.ins C dx fs)) (hm : fs.lookup m = none) (h : EvA tA σ H vs) (hR : ∀ H1, Ex H H1 → R (.ref a :: vs) H1 W) : EvW (tMeth C m (spW R) [] E ta tA) σ H W := fun H1 e Q q =>
  ha H1 e _ fun H2 e2 => ⟨a, dx, fs, rfl, (e.trans e2) a _ hx, hm, h H2 (e.trans e2) _ fun H3 e3 => by
    rw [List.append_nil]
    exact ⟨W, fun H4 e4 => hR H4 (((e.trans e2).trans e3).trans e4), fun v H4 e4 w => q v H4 ((e2.trans e3).trans e4) w⟩⟩
/-- what an __init__ promises: of these arguments, at a new instance -/
def spI (C : Addr) (Dm : List V → Prop) (J : List V → Addr → Addr → Hp → Prop) : Sp := fun vs H Q _ => ∃ (x dx : Addr) (as : List V), vs = .ref x :: as ∧ H x = some (.ins C dx []) ∧ Dm as ∧ ∀ H2, (∀ b o, b ≠ x → H b = some o → H2 b = some o) → J as x dx H2 → Q .non H2
theorem evw_make {Dm : List V → Prop} {J : List V → Addr → Addr → Hp → Prop} {tA : TA} {vs : List V} {E : XK} (h : EvA tA σ H vs) (hd : Dm vs) : EvW (tMake C (spI C Dm J) [] E tA) σ H (fun v H2 => ∃ x dx, v = .ref x ∧ J vs x dx H2) := fun H1 e Q q =>
  h H1 e _ fun H2 e2 => fun x dx nx nd ne => by
    rw [List.append_nil]
    refine ⟨x, dx, vs, rfl, upd_same, hd, fun H3 k w => ⟨rfl, q _ H3 (e2.trans fun b o hb => ?_) ⟨x, dx, rfl, w⟩⟩⟩
    have n1 : b ≠ x := ne_of_none hb nx
    refine k b o n1 ?_
    rw [upd_ne n1, upd_ne (ne_of_none hb nd)]
    exact hb
/-! blocks by what holds of the slots behind -/
def NxP (t : TS) (σ : L2.St) (H : Hp) (P : L2.St → Prop) : Prop := ∀ H1, Ex H H1 → ∀ D : Ends, (∀ σ' H2, Ex H1 H2 → P σ' → D.nx σ' H2) → t D σ H1
theorem nxp_of {P : L2.St → Prop} (h : Nx t σ H σ') (p : P σ') : NxP t σ H P := fun H1 e D q => h H1 e D fun H2 e2 => q σ' H2 e2 p
theorem NxP.imp {P P' : L2.St → Prop} (h : NxP t σ H P) (k : ∀ s, P s → P' s) : NxP t σ H P' := fun H1 e D q => h H1 e D fun s H2 e2 p => q s H2 e2 (k s p)
theorem rt_seqP {P : L2.St → Prop} (h : NxP t σ H P) (k : ∀ σ', P σ' → Rt u σ' H v) : Rt (tSeq t u) σ H v := fun H1 e D q => h H1 e { D with nx := u D } fun σ' H2 e2 p => k σ' p H2 (e.trans e2) D fun H3 e3 => q H3 (e2.trans e3)
theorem rtw_seqP {P : L2.St → Prop} (h : NxP t σ H P) (k : ∀ σ', P σ' → RtW u σ' H W) : RtW (tSeq t u) σ H W := fun H1 e D q => h H1 e { D with nx := u D } fun σ' H2 e2 p => k σ' p H2 (e.trans e2) D fun v H3 e3 w => q v H3 (e2.trans e3) w
theorem nxp_seqP {P P' : L2.St → Prop} (h : NxP t σ H P) (k : ∀ σ', P σ' → NxP u σ' H P') : NxP (tSeq t u) σ H P' := fun H1 e D q => h H1 e { D with nx := u D } fun σ' H2 e2 p => k σ' p H2 (e.trans e2) D fun s H3 e3 w => q s H3 (e2.trans e3) w
theorem nxp_if {P : L2.St → Prop} (h : EvT c σ H b) (h1 : b = true → NxP t σ H P) (h2 : b = false → NxP u σ H P) : NxP (tIfS c t u) σ H P := fun H1 e D q => h H1 e _ fun H2 e2 => by
  cases b with
  | true =>
    show t D σ H2
    exact h1 rfl H2 (e.trans e2) D fun s H3 e3 => q s H3 (e2.trans e3)
  | false =>
    show u D σ H2
    exact h2 rfl H2 (e.trans e2) D fun s H3 e3 => q s H3 (e2.trans e3)
theorem nxp_while {P : L2.St → Prop} (I : L2.St → Prop) (μ : L2.St → Nat) (h0 : I σ) (hs : ∀ s, I s → ∃ b, EvT c s H b ∧ (b = true → NxP u s H fun s' => I s' ∧ μ s' < μ s) ∧ (b = false → P s)) : NxP (tWhile c u) σ H P := fun H1 e D q =>
  ⟨fun k s H2 => k = μ s ∧ I s ∧ Ex H1 H2, ⟨_, rfl, h0, Ex.refl _⟩, fun k s H2 ⟨hk, hI, e2⟩ => by
    subst hk
    obtain ⟨b, hb, h1, h2⟩ := hs s hI
    refine hb H2 (e.trans e2) _ fun H3 e3 => ?_
    cases b with
    | true =>
      refine ⟨fun s' H' => (I s' ∧ μ s' < μ s) ∧ Ex H1 H', fun s' H' p => ⟨μ s', p.1.2, rfl, p.1.1, p.2⟩, ?_⟩
      exact h1 rfl H3 ((e.trans e2).trans e3) _ fun s' H4 e4 p => ⟨p, (e2.trans e3).trans e4⟩
    | false => exact q s H3 (e2.trans e3) (h2 rfl)⟩
/-! lists of pairs of numbers, tracked -/
def Prs (H : Hp) (ps : List Addr) (vs : List (Int × Int)) : Prop := Paired (fun (p : Addr) (q : Int × Int) => H p = some (.tup [.int q.1, .int q.2])) ps vs
def PairsT (H : Hp) (l : Addr) (vs : List (Int × Int)) : Prop := ∃ ps : List Addr, H l = some (.lst (ps.map V.ref)) ∧ Prs H ps vs
theorem Prs.mono {ps : List Addr} {vs : List (Int × Int)} (e : Ex H H') (h : Prs H ps vs) : Prs H' ps vs := by
  induction h with
  | nil => exact .nil
  | cons h1 _ ih => exact .cons (e _ _ h1) ih
theorem Prs.len {ps : List Addr} {vs : List (Int × Int)} (h : Prs H ps vs) : ps.length = vs.length := by
  induction h with
  | nil => rfl
  | cons _ _ ih => rw [List.length_cons, List.length_cons, ih]
theorem Prs.at {ps : List Addr} {vs : List (Int × Int)} (h : Prs H ps vs) {i : Nat} {q : Int × Int} (hq : vs[i]? = some q) : ∃ p, ps[i]? = some p ∧ H p = some (.tup [.int q.1, .int q.2]) := by
  induction h generalizing i with
  | nil => simp at hq
  | @cons p q' ps vs h1 _ ih =>
    cases i with
    | zero =>
      rw [List.getElem?_cons_zero] at hq
      cases hq
      exact ⟨p, rfl, h1⟩
    | succ i =>
      rw [List.getElem?_cons_succ] at hq
      obtain ⟨p', e1, e2⟩ := ih hq
      exact ⟨p', by rw [List.getElem?_cons_succ]; exact e1, e2⟩
theorem Prs.snoc {ps : List Addr} {vs : List (Int × Int)} {p : Addr} {q : Int × Int} (h : Prs H ps vs) (hp : H p = some (.tup [.int q.1, .int q.2])) : Prs H (ps ++ [p]) (vs ++ [q]) := by
  induction h with
  | nil => exact .cons hp .nil
  | cons h1 _ ih => exact .cons h1 ih
theorem Prs.drop {ps : List Addr} {vs : List (Int × Int)} (k : Nat) (h : Prs H ps vs) : Prs H (ps.drop k) (vs.drop k) := by
  induction h generalizing k with
  | nil =>
    rw [List.drop_nil, List.drop_nil]
    exact .nil
  | cons h1 h2 ih =>
    cases k with
    | zero => exact .cons h1 h2
    | succ k => exact ih k
theorem Prs.take {ps : List Addr} {vs : List (Int × Int)} (k : Nat) (h : Prs H ps vs) : Prs H (ps.take k) (vs.take k) := by
  induction h generalizing k with
  | nil =>
    rw [List.take_nil, List.take_nil]
    exact .nil
  | cons h1 h2 ih =>
    cases k with
    | zero => exact .nil
    | succ k => exact .cons h1 (ih k)
/-- a change elsewhere: at an object that is no tuple -/
theorem Prs.upd {ps : List Addr} {vs : List (Int × Int)} {l : Addr} {o : HO} (h : Prs H ps vs) (hl : ∀ xs, H l ≠ some (.tup xs)) : Prs (L2.upd H l o) ps vs := by
  induction h with
  | nil => exact .nil
  | cons h1 _ ih => exact .cons (by rw [upd_ne (fun z => hl _ (by rw [← z]; exact h1))]; exact h1) ih
theorem PairsT.mono {l : Addr} {vs : List (Int × Int)} (e : Ex H H') (h : PairsT H l vs) : PairsT H' l vs := by
  obtain ⟨ps, h1, h2⟩ := h
  exact ⟨ps, e _ _ h1, h2.mono e⟩
theorem PairsT.lst {l : Addr} {vs : List (Int × Int)} (h : PairsT H l vs) : ∃ xs : List V, SqL K H l xs ∧ xs.length = vs.length := by
  obtain ⟨ps, h1, h2⟩ := h
  exact ⟨_, sq_of h1, by rw [List.length_map]; exact h2.len⟩
theorem ev_lenP {l : Addr} {vs : List (Int × Int)} (ha : Ev ta σ H (.ref l)) (h : PairsT H l vs) : Ev (tCB (fun xs H Q => ∃ p ys, xs = [.ref p] ∧ (SqL K H p ys ∨ SqT K H p ys) ∧ Q (.int ys.length) H) (tCons ta tNil)) σ H (.int (vs.length : Int)) := by
  obtain ⟨xs, h1, h2⟩ := h.lst (K := K)
  rw [← h2]
  exact ev_lenL ha h1
/-- rows[i] -/
theorem ev_pair {l : Addr} {vs : List (Int × Int)} {i : Int} {q : Int × Int} (h : PairsT H l vs) (ha : Ev ta σ H (.ref l)) (hb : Ev tb σ H (.int i)) (h0 : 0 ≤ i) (hq : vs[i.toNat]? = some q) : ∃ p, H p = some (.tup [.int q.1, .int q.2]) ∧ Ev (tOp (rIxL K) ta tb) σ H (.ref p) := by
  obtain ⟨ps, h1, h2⟩ := h
  obtain ⟨p, e1, e2⟩ := h2.at hq
  refine ⟨p, e2, ev_ixL ha hb (sq_of h1) ?_⟩
  obtain ⟨j, rfl⟩ : ∃ j : Nat, i = (j : Int) := ⟨i.toNat, by omega⟩
  refine atI_nat ?_
  rw [List.getElem?_map]
  rw [Int.toNat_natCast] at e1
  rw [e1]
  rfl
theorem ev_pair0 {l : Addr} {vs : List (Int × Int)} {i : Int} {q : Int × Int} (ha : Ev ta σ H (.ref l)) (hb : Ev tb σ H (.int i)) (h : PairsT H l vs) (h0 : 0 ≤ i) (hq : vs[i.toNat]? = some q) : Ev (tOp (rIxT K) (tOp (rIxL K) ta tb) (tC (.int 0))) σ H (.int q.1) := by
  obtain ⟨p, h1, h2⟩ := ev_pair (K := K) h ha hb h0 hq
  exact ev_ixT h2 ev_c (st_of h1) rfl
theorem ev_pair1 {l : Addr} {vs : List (Int × Int)} {i : Int} {q : Int × Int} (ha : Ev ta σ H (.ref l)) (hb : Ev tb σ H (.int i)) (h : PairsT H l vs) (h0 : 0 ≤ i) (hq : vs[i.toNat]? = some q) : Ev (tOp (rIxT K) (tOp (rIxL K) ta tb) (tC (.int 1))) σ H (.int q.2) := by
  obtain ⟨p, h1, h2⟩ := ev_pair (K := K) h ha hb h0 hq
  exact ev_ixT h2 ev_c (st_of h1) rfl
/-! statements that change objects, told at the heap ahead -/
variable {D : Ends}
theorem Nx.go (h : Nx t σ H σ') (k : ∀ H2, Ex H H2 → u D σ' H2) : tSeq t u D σ H := h H (Ex.refl H) { D with nx := u D } k
theorem Rt.go (h : Rt t σ H v) (k : ∀ H2, Ex H H2 → D.rt v H2) : t D σ H := h H (Ex.refl H) D k
theorem s_fldst {y : V} {tv : TE} (hv : Ev tv σ H y) (ha : Ev ta σ H (.ref a)) (hx : H a = some (.ins C dx fs)) (hc : Cls K C) (hn : NoAttr K C f) (hl : fs.length < 1000) (k : ∀ H1, Ex H H1 → D.nx σ (upd H1 a (.ins C dx (putF f y fs)))) : sFld K ta tv f D σ H :=
  hv H (Ex.refl H) _ fun H1 e1 => ha H1 e1 _ fun H2 e2 => ⟨a, C, dx, fs, rfl, (e1.trans e2) _ _ hx, hc, hn, hl, k H2 (e1.trans e2)⟩
theorem s_fldaugst {i j : Int} {tv : TE} (ha : Ev ta σ H (.ref a)) (hx : H a = some (.ins C dx fs)) (hc : Cls K C) (hn : NoAttr K C f) (hl : fs.lookup f = some (.int i)) (hv : Ev tv σ H (.int j)) (hz : fs.length < 1000) (k : ∀ H1, Ex H H1 → D.nx σ (upd H1 a (.ins C dx (putF f (.int (i + j)) fs)))) : sFldAug K ta tv rAdd f D σ H :=
  ha H (Ex.refl H) _ fun H1 e1 => ⟨a, C, dx, fs, .int i, rfl, e1 _ _ hx, hc, hn, hl, hv H1 e1 _ fun H2 e2 => ⟨i, j, rfl, rfl, dx, fs, (e1.trans e2) _ _ hx, hz, k H2 (e1.trans e2)⟩⟩
/-! a loop whose turn goes on with a new state, or leaves -/
def runN {α : Type} (turn : Nat → α → Option α) : Nat → Nat → α → Option α
  | 0, _, st => some st
  | m + 1, i, st => match turn i st with
    | none => none
    | some st' => runN turn m (i + 1) st'
theorem runN_steps {α : Type} (turn : Nat → α → Option α) : ∀ (m i : Nat) (st : α),
    (∃ f : Nat → α, f 0 = st ∧ (∀ j, j < m → turn (i + j) (f j) = some (f (j + 1))) ∧ runN turn m i st = some (f m)) ∨
    (∃ (k : Nat) (f : Nat → α), k < m ∧ f 0 = st ∧ (∀ j, j < k → turn (i + j) (f j) = some (f (j + 1))) ∧ turn (i + k) (f k) = none ∧ runN turn m i st = none)
  | 0, i, st => .inl ⟨fun _ => st, rfl, fun _ h => absurd h (Nat.not_lt_zero _), rfl⟩
  | m + 1, i, st => by
    cases e : turn i st with
    | none =>
      refine .inr ⟨0, fun _ => st, Nat.succ_pos _, rfl, fun _ h => absurd h (Nat.not_lt_zero _), e, ?_⟩
      rw [runN, e]
    | some st' =>
      have er : runN turn (m + 1) i st = runN turn m (i + 1) st' := by rw [runN, e]
      have sh : ∀ j, i + 1 + j = i + (j + 1) := fun j => by omega
      rcases runN_steps turn m (i + 1) st' with ⟨f, h0, h1, h2⟩ | ⟨k, f, hk, h0, h1, h2, h3⟩
      · refine .inl ⟨fun j => match j with | 0 => st | j + 1 => f j, rfl, fun j hj => ?_, er.trans h2⟩
        cases j with
        | zero =>
          show turn i st = some (f 0)
          rw [e, h0]
        | succ j =>
          rw [← sh]
          exact h1 j (Nat.lt_of_succ_lt_succ hj)
      · refine .inr ⟨k + 1, fun j => match j with | 0 => st | j + 1 => f j, Nat.succ_lt_succ hk, rfl, fun j hj => ?_, by rw [← sh]; exact h2, er.trans h3⟩
        cases j with
        | zero =>
          show turn i st = some (f 0)
          rw [e, h0]
        | succ j =>
          rw [← sh]
          exact h1 j (Nat.lt_of_succ_lt_succ hj)
theorem rt_for_opt {α : Type} {wi : TI} {items : Nat → V} {n : Nat} {g : TG} {v0 : V} {st0 : α} (turn : Nat → α → Option α) (S : α → Nat → L2.St) (Iv : Nat → α → Prop) (i0 : Iv 0 st0) (hI : EvI wi (S st0 0) H items n)
    (hs : ∀ i st st', i < n → Iv i st → turn i st = some st' → GNx g u (items i) (S st i) H (S st' (i + 1)) ∧ Iv (i + 1) st') (hn : ∀ i st, i < n → Iv i st → turn i st = none → GRtW g u (items i) (S st i) H (fun v' _ => v' = v0))
    (hr : ∀ st, Iv n st → runN turn n 0 st0 = some st → Rt tz (S st n) H v) (h0 : runN turn n 0 st0 = none → v = v0) : Rt (tSeq (tFor wi g u) tz) (S st0 0) H v := by
  rcases runN_steps turn n 0 st0 with ⟨f, f0, f1, f2⟩ | ⟨k, f, hk, f0, f1, f2, f3⟩
  · have iv : ∀ j, j ≤ n → Iv j (f j) := fun j => by
      induction j with
      | zero => intro _; rw [f0]; exact i0
      | succ j ih => exact fun hj => (hs j (f j) (f (j + 1)) hj (ih (Nat.le_of_succ_le hj)) (by have := f1 j hj; rw [Nat.zero_add] at this; exact this)).2
    have hI' : EvI wi (S (f 0) 0) H items n := by rw [f0]; exact hI
    have z : Nx (tFor wi g u) (S (f 0) 0) H (S (f n) n) := nx_for (fun j => S (f j) j) hI' fun j hj => (hs j _ _ hj (iv j (Nat.le_of_lt hj)) (by have := f1 j hj; rw [Nat.zero_add] at this; exact this)).1
    rw [f0] at z
    exact rt_seq z (hr _ (iv n (Nat.le_refl n)) f2)
  · have iv : ∀ j, j ≤ k → Iv j (f j) := fun j => by
      induction j with
      | zero => intro _; rw [f0]; exact i0
      | succ j ih => exact fun hj => (hs j (f j) (f (j + 1)) (Nat.lt_trans hj hk) (ih (Nat.le_of_succ_le hj)) (by have := f1 j hj; rw [Nat.zero_add] at this; exact this)).2
    have hI' : EvI wi (S (f 0) 0) H items n := by rw [f0]; exact hI
    have z : Rt (tFor wi g u) (S (f 0) 0) H v0 := rt_for k (fun j => S (f j) j) hI' hk (fun j hj => (hs j _ _ (Nat.lt_trans hj hk) (iv j (Nat.le_of_lt hj)) (by have := f1 j hj; rw [Nat.zero_add] at this; exact this)).1) (hn k _ hk (iv k (Nat.le_refl k)) (by rw [Nat.zero_add] at f2; exact f2))
    rw [f0] at z
    rw [h0 f3]
    exact rt_now z
theorem Rt.at (h : Rt t σ' H v) (e : σ = σ') : Rt t σ H v := e ▸ h
theorem getD_some {vs : List (Int × Int)} {i : Nat} (h : i < vs.length) : vs[i]? = some (vs.getD i (0, 0)) := by
  rw [List.getD_eq_getElem?_getD, List.getElem?_eq_getElem h]
  rfl
end
section
variable {P : Program} {w : World} {K : PySem.W.Frag} {mg : Str → Option Value} {base : Heap} {C : Addr} {x m : Str} {sp : Sp} {dvs : List V} {j k : Nat}
theorem metMono (h : j ≤ k) (c : C8.Met P w K mg base j C m sp dvs) : C8.Met P w K mg base k C m sp dvs := by
  obtain ⟨f, fd, ps, ds, h1, h2, F, h3, h4⟩ := c.ex
  exact ⟨f, fd, ps, ds, h1, h2, F.mono h, h3, h4⟩
theorem calMono (h : j ≤ k) (c : C8.Cal P w K mg base j x sp dvs) : C8.Cal P w K mg base k x sp dvs := by
  obtain ⟨f, fd, ps, ds, F, h1, h2, h3, h4⟩ := c.ex
  exact ⟨f, fd, ps, ds, F.mono h, h1, h2, h3, h4⟩
end
theorem rv_isB {a b : Bool} {H : Hp} : RV rIsB (.bl a) (.bl b) H (.bl (decide (a = b))) := fun H1 _ _ q => ⟨a, b, rfl, rfl, q H1 (Ex.refl H1)⟩
end Tk
namespace Tk
open PySem PySem.Spec PyProof.Rows L2 Evl
/-! a class made in a try: what leaves its __init__ is the try's -/
def tMakeS (C : Addr) (sp : Sp) (E : L2.St → XK) (t : TA) : TE := fun σ H Q => t σ H fun vs H1 => ∀ x dx, H1 x = none → H1 dx = none → dx ≠ x → sp (.ref x :: vs) (upd (upd H1 dx (.own x)) x (.ins C dx [])) (fun v H2 => v = .non ∧ Q (.ref x) H2) (E σ)
section
variable {X : Cx} {CX : CXT} {k : Nat} {f C : Addr} {fd : FuncData} {ps : List Str} {sp : Sp} {E : L2.St → XK} {x : Str} {p pos : Pos} {e : Expr} {es : List Expr} {t : TA}
theorem goMakeS {pn : List (Addr × Obj)} {σ : L2.St} {H : Hp} {s : Shared} {Q : VK} {us : List Value} {vs : List V} (M : Mk X.K C f) (F : FnOk X.prog X.w X.K X.mg X.base CX k f fd ps sp) (hr : Room (k + 1) X.A) (hb : Binds X.K fd ps []) (hx : PassesAt CX X σ (E σ)) (I : Inv X pn σ H s) (r : Vals vs us)
    (h : ∀ x dx, H x = none → H dx = none → dx ≠ x → sp (.ref x :: vs) (upd (upd H dx (.own x)) x (.ins C dx [])) (fun v H2 => v = .non ∧ Q (.ref x) H2) (E σ)) : wpAny (model X.prog X.w) X.A (call (.ref C) us) (EP X pn σ Q) X.xe s := by
  have free1 : H (s.heap.objs.size + 1) = none := I.hok.fresh (Nat.le_succ _)
  have free0 : H s.heap.objs.size = none := I.hok.fresh (Nat.le_refl _)
  have made := h _ _ free1 free0 (Nat.ne_of_lt (Nat.lt_succ_self _))
  have J := Inv.made (C := C) I
  have vals : Vals (V.ref (s.heap.objs.size + 1) :: vs) (Value.ref (s.heap.objs.size + 1) :: us) := .cons rfl r
  have many : (Value.ref (s.heap.objs.size + 1) :: us).length = ps.length := vals.length.symm.trans (F.len _ _ _ _ made)
  have bound := hb _ (Value.ref (s.heap.objs.size + 1) :: us) J.kIn (by rw [List.append_nil]; exact many)
  rw [List.append_nil] at bound
  refine wpAny_call (make_map (f := f) I.kIn M.makes M.init (beq_iff_eq.mp M.fn) (codeAny_mono (F.run _ X.stack _ _ _ _ _ _ (E σ) (hr.make C us []) (J.env0.make C us []) bound vals made) fun res s' got => ?_))
  match res, got with
  | .error err, got => exact hx pn _ _ err s' J got
  | .ok (.ret u), got =>
    obtain ⟨v, H3, J3, rv, ev, q3⟩ := J.after got
    subst ev
    exact ⟨rv, ⟨V.ref (s.heap.objs.size + 1), H3, J3, rfl, q3⟩⟩
  | .ok .next, got => exact False.elim got
  | .ok .brk, got => exact False.elim got
  | .ok .cont, got => exact False.elim got
theorem pe_makeS (M : Mk X.K C f) (F : FnOk X.prog X.w X.K X.mg X.base CX k f fd ps sp) (hr : Room (k + 1) X.A) (hg : Gl X x) (hm : X.mg x = some (.ref C)) (hb : Binds X.K fd ps []) (hx : ∀ σ, PassesAt CX X σ (E σ)) (ha : PA X (e :: es) t)
    (hdb : (x == ("__debug__" : Str)) = false := by decide) (he : starEach (e :: es) X.env = (false, eval e X.env) :: starEach es X.env := by rfl) (hpl : (backTo pos (starEach es X.env)).any (·.1) = false := by rfl) : PE X (.Call (.Name x p) (e :: es) [] pos) (tMakeS C sp E t) :=
  ⟨fun pn s σ H Q I h => wpAny_Call_Name_kw (ld_glob I hg hm (PySem.W.callWith_K (h₀ := X.base) I.ok.mod.kin M.kp (thn (ha.run pos pn s σ H _ I h) fun us s1 ⟨vs, H1, I1, r, q⟩ => ⟨I1.kIn, goMakeS M F hr hb (hx σ) I1 r q⟩) he hpl) hdb)⟩
end
/-! a for by what holds of the slots -/
def GNxP (g : TG) (u : TS) (x : V) (σ : L2.St) (H : Hp) (P : L2.St → Prop) : Prop := ∀ H1, Ex H H1 → ∀ D : Ends, (∀ σ' H2, Ex H1 H2 → P σ' → D.nx σ' H2) → g x σ H1 fun σ2 H2 => u D σ2 H2
theorem gnxp_name {j : Nat} {u : TS} {x : V} {σ : L2.St} {H : Hp} {P : L2.St → Prop} (h : NxP u (σ.set j (some x)) H P) : GNxP (gName j) u x σ H P := fun H1 e D q => h H1 e D q
theorem nxp_for {wi : TI} {items : Nat → V} {n : Nat} {g : TG} {u : TS} {σ : L2.St} {H : Hp} (Iv : Nat → L2.St → Prop) (i0 : Iv 0 σ) (h : EvI wi σ H items n) (hs : ∀ i s, i < n → Iv i s → GNxP g u (items i) s H (Iv (i + 1))) : NxP (tFor wi g u) σ H (Iv n) := fun H1 e D q =>
  h H1 e _ fun J H2 e2 G => by
    refine ⟨fun i m s H3 => m = n - i ∧ i ≤ n ∧ Iv i s ∧ Ex H2 H3, ⟨n, by simp, Nat.zero_le _, i0, Ex.refl _⟩, ?_⟩
    rintro i m s H3 ⟨rfl, hi, hv, e3⟩
    by_cases hlt : i < n
    · refine .inr ⟨G.go i H3 e3 hlt, fun s' H' => Iv (i + 1) s' ∧ Ex H2 H', fun s' H' p => ⟨n - (i + 1), by omega, rfl, hlt, p.1, p.2⟩, fun x H' y => ?_⟩
      obtain ⟨rfl, rfl⟩ := G.yld i x H3 H' e3 hlt y
      exact hs i s hlt hv _ ((e.trans e2).trans e3) _ fun s' H4 e4 p => ⟨p, e3.trans e4⟩
    · obtain rfl : i = n := by omega
      exact .inl ⟨G.stop _ e3, q _ _ (e2.trans e3) hv⟩
theorem rv_notB {a b : Bool} {H : Hp} : RV rNotB (.bl a) (.bl b) H (.bl (!decide (a = b))) := fun H1 _ _ q => ⟨a, b, rfl, rfl, q H1 (Ex.refl H1)⟩
end Tk
namespace Tk
open PySem PySem.Spec PyProof.Rows L2 Evl NdefX LamX
/-! a function made by one def and handed to another: its cells are no frame of those that stand around -/
def CellsFar (cl : List (Str × Addr)) (outer : List Env) : Prop := ∀ y c, cl.lookup y = some c → c ∉ frs outer
structure FnOkC (P : Program) (w : World) (K : PySem.W.Frag) (mg : Str → Option Value) (base : Heap) (k : Nat) (f : Addr) (fd : FuncData) (ps : List Str) (cl : List (Str × Addr)) (fr : List Str) (ws : List (Option V)) (sp : Sp) : Prop where
  len : ∀ vs H Q E, sp vs H Q E → vs.length = ps.length
  run : ∀ (A : Around) (outer : List Env) (s : Shared) (H : Hp) (args : Args) (us : List Value) (vs : List V) (Q : VK) (E : XK), Room k A → Env0 P w K mg base A outer s H → CellsAt cl fr ws s.heap H → CellsFar cl outer → BindsTo s fd args (ps.zip us) → Vals vs us → sp vs H Q E →
    codeAny (model P w) A (.call (.ref f) args) (CR C8.CX0 outer P w H s Q E) s
section
variable {P : Program} {w : World} {K : PySem.W.Frag} {mg : Str → Option Value} {base : Heap}
theorem fn0C {x qual : Str} {st : Stmt} {f : Addr} {fd : FuncData} {N ps fr : List Str} {k : Nat} {sp : Sp} {cl : List (Str × Addr)} {ws : List (Option V)} (F : C8.Fun K x qual st f fd) (S : FnScope N ps (C8.fnScope st)) (len : ∀ vs H Q E, sp vs H Q E → vs.length = ps.length)
    (hbody : ∀ (cdv : Value) (A : Around) (outer : List Env) (s : Shared) (H : Hp) (vs : List V) (Q : VK) (E : XK), Room k (A.deeper (envOfC qual (C8.fnScope st) s.heap.objs.size f cdv)) → CellsAt cl fr ws s.heap H → CellsFar cl outer → sp vs H Q E →
      ∃ t, PSs (cxOf C8.CX0 P w K mg base N qual (C8.fnScope st) f cdv A outer s H E).nox (C8.fnBody st) t ∧ t { nx := fun _ H' => Q .non H', rt := Q } (L2.start N vs) H) : FnOkC P w K mg base (k + 1) f fd ps cl fr ws sp := by
  obtain ⟨oc, od, dV, kV, doc, pm, an, cdv, ct, osl, e0, lk, hcd⟩ := F.ex
  subst e0
  refine ⟨len, fun A outer s H args us vs Q E room st0 cells far bnd vals ok => ?_⟩
  have kin : K.In s.heap := st0.mod.kin.keeps fun b o z => (st0.bs b o z).1
  have nolim : s.heap.NoLimit := st0.mod.nolimit.keeps fun b o z => (st0.bs b o z).1
  have many : vs.length = ps.length := len _ _ _ _ ok
  have kinds : ∀ y ∈ ps.zip us, (C8.fnScope st).names.lookup y.1 = some .local ∨ ((C8.fnScope st).names.lookup y.1 = some .cell ∧ ((cellsFrom (s.heap.objs.size + 1) (C8.fnScope st).names []).lookup y.1).isSome = true) := by
    intro y hy
    rcases S.par y.1 (List.of_mem_zip (show (y.1, y.2) ∈ ps.zip us from hy)).1 with q | q
    · exact Or.inl q
    · exact Or.inr ⟨q, PySem.W.cellsFrom_some _ _ _ (Or.inl q)⟩
  refine codeAny_call_function room.depth (kin f _ lk) rfl S.co S.gen rfl (PySem.W.codeRec_of kin hcd) (bnd _ _ _ _ ?_)
  refine wpAny_newFunctionEnv_cells S.kind kinds fun env e1 s1 inC => ?_
  subst e1
  refine ⟨nolim.keeps inC.toInCall.keep, codeAny_func ?_⟩
  obtain ⟨t, run, post⟩ := hbody cdv A outer s H vs Q E (room.deeper _) cells far ok
  have start0 : Inv (cxOf C8.CX0 P w K mg base N qual (C8.fnScope st) f cdv A outer s H E) [] (L2.start N vs) H s1 := inv_start S room.hd st0 many vals inC
  refine wpAny_mono (run.nox.run [] s1 (L2.start N vs) H _ start0 post) (fun fl s2 done => ?_) fun _ _ z => z
  match fl, done with
  | .ret u, ⟨v, σ2, H2, J, rv, q⟩ => exact ⟨v, H2, J.os, J.bare, J.base, J.hok, rv, q⟩
  | .next, ⟨σ2, H2, J, q⟩ => exact ⟨V.non, H2, J.os, J.bare, J.base, J.hok, rfl, q⟩
  | .brk, ⟨_, _, _, q⟩ => exact q.elim
  | .cont, ⟨_, _, _, q⟩ => exact q.elim
end
section
variable {X : Cx} {pins : List (Addr × Obj)} {σ : L2.St} {H : Hp} {s : Shared} {cl : List (Str × Addr)} {ps fr : List Str} {ws : List (Option V)} {wsOf : L2.St → List (Option V)} {i j k : Nat} {x : Str} {e : Expr} {es : List Expr} {p pos : Pos} {t : TA}
/-- in the frame to which it was handed -/
theorem cells_later (I : Inv X pins σ H s) (hx : X.ex = []) (C : CellsAt cl fr ws X.s_0.heap X.H_0) (far : CellsFar cl X.outer) : CellsAt cl fr ws s.heap H := C.later far (fun y c _ z => by rw [hx] at z; cases z) I
/-- in the frame that made it -/
theorem far_made (I : Inv X pins σ H s) (hst : X.stack = X.env :: X.outer) (hfr : X.env.frame = some X.env.locals) (hfn : ∀ y, X.fn y = true) (hsub : ∀ y c, cl.lookup y = some c → X.env.cells.lookup y = some c) : CellsFar cl X.stack := fun y c e hb => by
  have e1 := hsub y c e
  have hb2 : c = X.env.locals ∨ c ∈ frs X.outer := by
    rw [hst] at hb
    unfold frs at hb ⊢
    rw [List.filterMap_cons, hfr] at hb
    exact List.mem_cons.mp hb
  rcases hb2 with z | z
  · obtain ⟨v, o, ho, hd⟩ := I.cell y c e1
    obtain ⟨m, ⟨o2, es, ep, ho2, hd2, _⟩, _⟩ := I.loc
    rw [z, ho2] at ho
    cases ho
    rw [hd2] at hd
    cases hd
  · have a := I.ok.cab y c (hfn y) e1
    obtain ⟨_, o, ho, _⟩ := I.ok.funs.mem z
    exact absurd (Heap.lt_size ho) (Nat.not_lt.mpr a)
/-- f(..), f a local that holds a function made by mk -/
def tCallG (mk : Addr → NF) (i : Nat) (wsOf : L2.St → List (Option V)) (sp : List (Option V) → Sp) (t : TA) : TE := fun σ H Q => ∃ f c', σ[i]? = some (some (.ref f)) ∧ H f = some (FnO f (mk c')) ∧
  t σ H fun vs H1 => H1 f = some (FnO f (mk c')) ∧ H1 (mk c').c = some (CodeO (mk c').c (mk c').qual) ∧ sp (wsOf σ) vs H1 Q C8.E0
theorem pe_callG {mk : Addr → NF} {sp : List (Option V) → Sp} (Fn : ∀ f c', NOk X.prog X.w X.K X.mg X.base C8.CX0 k f (mk c') ps fr sp) (hcl : ∀ c', (mk c').cl = cl) (C : ∀ pins σ H s, Inv X pins σ H s → CellsAt cl fr (wsOf σ) s.heap H) (hr : Room j X.A) (hk : k ≤ j) (hN : X.N[i]? = some x) (hv : Vis X.env.scope x)
    (ha : PA X (e :: es) t) (hd : (x == ("__debug__" : Str)) = false := by decide) (hcd : (x == ("__classdict__" : Str)) = false := by decide) (he : starEach (e :: es) X.env = (false, eval e X.env) :: starEach es X.env := by rfl)
    (hpl : (backTo pos (starEach es X.env)).any (·.1) = false := by rfl) : PE X (.Call (.Name x p) (e :: es) [] pos) (tCallG mk i wsOf sp t) := by
  constructor
  intro pins s σ H Q I h
  obtain ⟨f, c', at0, fo, ht⟩ := h
  have look := (pe_var (X := X) (pos := p) hN hv hd hcd).run pins s σ H (fun v H1 => v = .ref f ∧ H1 = H) I ⟨V.ref f, at0, rfl, rfl⟩
  refine wpAny_Call_Name_kw (thn look fun u s1 got => ?_)
  obtain ⟨v, H1, I1, r1, ev, eH⟩ := got
  subst ev
  rw [eH] at I1
  have eu : u = Value.ref f := r1
  subst eu
  refine PySem.W.callWith_F (first := []) (fnAt_of I1 fo) (thn (ha.run pos pins s1 σ H _ I1 ht) fun us s2 got2 => ?_) he hpl
  obtain ⟨vs, H2, I2, r, g1, g2, q⟩ := got2
  have cells := C pins σ H2 s2 I2
  rw [← hcl c'] at cells
  refine ⟨fnAt_of I2 g1, wpAny_call (codeAny_mono ((Fn f c').run X.A X.stack s2 H2 us vs (wsOf σ) Q C8.E0 (hr.mono hk) I2.env0 g1 g2 cells r q) fun res s3 got3 => ?_)⟩
  match res, got3 with
  | .error _, got3 => exact False.elim got3
  | .ok (.ret u2), got3 => exact I2.after got3
  | .ok .next, got3 => exact False.elim got3
  | .ok .brk, got3 => exact False.elim got3
  | .ok .cont, got3 => exact False.elim got3
theorem ev_callG {mk : Addr → NF} {R : List (Option V) → List V → Hp → V → Prop} {f c' : Addr} {vs : List V} {v : V} (hs : σ[i]? = some (some (.ref f))) (hf : H f = some (FnO f (mk c'))) (hc : H (mk c').c = some (CodeO (mk c').c (mk c').qual)) (ha : EvA t σ H vs) (hR : ∀ H1, Ex H H1 → R (wsOf σ) vs H1 v) :
    Ev (tCallG mk i wsOf (fun ws => spF (R ws)) t) σ H v := fun H1 e Q q =>
  ⟨f, c', hs, e _ _ hf, ha H1 e _ fun H2 e2 => ⟨(e.trans e2) _ _ hf, (e.trans e2) _ _ hc, v, fun H3 e3 => hR H3 ((e.trans e2).trans e3), fun H3 e3 => q H3 (e2.trans e3)⟩⟩
/-- a def of the module that is handed such a function -/
structure CalC (P : Program) (w : World) (K : PySem.W.Frag) (mg : Str → Option Value) (base : Heap) (k : Nat) (x : Str) (fr : List Str) (sp : List (Str × Addr) → List (Option V) → Sp) : Prop where
  ex : ∃ (f : Addr) (fd : FuncData) (ps : List Str), (∀ cl ws, FnOkC P w K mg base k f fd ps cl fr ws (sp cl ws)) ∧ mg x = some (.ref f) ∧ PySem.W.keepIn K (.ref f) = true ∧ Binds K fd ps []
def tCallC (cl : List (Str × Addr)) (wsOf : L2.St → List (Option V)) (sp : List (Str × Addr) → List (Option V) → Sp) (t : TA) : TE := fun σ H Q => t σ H fun vs H1 => sp cl (wsOf σ) vs H1 Q C8.E0
theorem pe_cC {sp : List (Str × Addr) → List (Option V) → Sp} (c : CalC X.prog X.w X.K X.mg X.base k x fr sp) (C : ∀ pins σ H s, Inv X pins σ H s → CellsAt cl fr (wsOf σ) s.heap H) (far : ∀ pins σ H s, Inv X pins σ H s → CellsFar cl X.stack) (hr : Room j X.A) (hk : k ≤ j) (hg : Gl X x) (ha : PA X (e :: es) t)
    (hdb : (x == ("__debug__" : Str)) = false := by decide) (he : starEach (e :: es) X.env = (false, eval e X.env) :: starEach es X.env := by rfl) (hpl : (backTo pos (starEach es X.env)).any (·.1) = false := by rfl) :
    PE X (.Call (.Name x p) (e :: es) [] pos) (tCallC cl wsOf sp t) := by
  obtain ⟨f, fd, ps, F, gm, kp, b⟩ := c.ex
  constructor
  intro pins s σ H Q I h
  refine wpAny_Call_Name_kw (ld_glob I hg gm (PySem.W.callWith_K (h₀ := X.base) I.ok.mod.kin kp (thn (ha.run pos pins s σ H _ I h) fun us s1 got => ?_) he hpl) hdb)
  obtain ⟨vs, H1, I1, r, q⟩ := got
  have many : us.length = ps.length := r.length.symm.trans ((F cl (wsOf σ)).len _ _ _ _ q)
  have bd := b s1 us I1.kIn (by rw [List.append_nil]; exact many)
  rw [List.append_nil] at bd
  refine ⟨I1.kIn, wpAny_call (codeAny_mono ((F cl (wsOf σ)).run X.A X.stack s1 H1 ⟨us, []⟩ us vs Q C8.E0 (hr.mono hk) I1.env0 (C pins σ H1 s1 I1) (far pins σ H1 s1 I1) bd r q) fun res s3 got3 => ?_)⟩
  match res, got3 with
  | .error _, got3 => exact False.elim got3
  | .ok (.ret u2), got3 => exact I1.after got3
  | .ok .next, got3 => exact False.elim got3
  | .ok .brk, got3 => exact False.elim got3
  | .ok .cont, got3 => exact False.elim got3
theorem ev_callC {R : List (Str × Addr) → List (Option V) → List V → Hp → V → Prop} {vs : List V} {v : V} (ha : EvA t σ H vs) (hR : ∀ H1, Ex H H1 → R cl (wsOf σ) vs H1 v) : Ev (tCallC cl wsOf (fun cl ws => spF (R cl ws)) t) σ H v := fun H1 e Q q =>
  ha H1 e _ fun H2 e2 => ⟨v, fun H3 e3 => hR H3 ((e.trans e2).trans e3), fun H3 e3 => q H3 (e2.trans e3)⟩
end
/-! what grows but for tables -/
theorem exN_l {K : PySem.W.Frag} {H H' : Hp} {a : Addr} {xs : List V} (e : ExtN H H') (h : SqL K H a xs) : SqL K H' a xs := by
  rcases h with (h | ⟨o, h⟩) | h
  · exact .inl (.inl (e _ _ h fun _ z => by cases z))
  · exact .inl (.inr ⟨o, e _ _ h fun _ z => by cases z⟩)
  · exact .inr h
theorem exN_t {H H' : Hp} {a : Addr} {xs : List V} (e : ExtN H H') (h : H a = some (.tup xs)) : H' a = some (.tup xs) := e _ _ h fun _ z => by cases z
theorem exN_lst {H H' : Hp} {a : Addr} {xs : List V} (e : ExtN H H') (h : H a = some (.lst xs)) : H' a = some (.lst xs) := e _ _ h fun _ z => by cases z
theorem exN_prs {H H' : Hp} {ps : List Addr} {vs : List (Int × Int)} (e : ExtN H H') (h : Prs H ps vs) : Prs H' ps vs := by
  induction h with
  | nil => exact .nil
  | cons h1 _ ih => exact .cons (exN_t e h1) ih
theorem exN_pairs {H H' : Hp} {l : Addr} {vs : List (Int × Int)} (e : ExtN H H') (h : PairsT H l vs) : PairsT H' l vs := by
  obtain ⟨ps, h1, h2⟩ := h
  exact ⟨ps, exN_lst e h1, exN_prs e h2⟩
theorem Ex.extN {H H' : Hp} (e : Ex H H') : ExtN H H' := fun b o h _ => e b o h
/-! for, from the end -/
theorem ei_revR {σ : L2.St} {H : Hp} {te : TE} {n : Int} (h : Ev te σ H (.int n)) (h0 : 0 ≤ n) (h1 : n < 2 ^ 62) : EvI (iRevR (tRg1 te)) σ H (fun i => .int (0 + (((n - 0).toNat : Nat) : Int) - 1 + (i : Nat) * (-1))) (n - 0).toNat := fun H1 e R q =>
  h H1 e _ fun H2 e2 => ⟨n, rfl, by omega, by omega, by omega, h1, q _ H2 e2 gen_c⟩
/-! a for each of whose turns goes on or hands back -/
theorem rtwp_for {wi : TI} {items : Nat → V} {n : Nat} {g : TG} {u tz : TS} {σ : L2.St} {H : Hp} {W : V → Hp → Prop} (Iv : Nat → L2.St → Prop) (i0 : Iv 0 σ) (h : EvI wi σ H items n) (hs : ∀ i s, i < n → Iv i s → GNxP g u (items i) s H (Iv (i + 1)) ∨ GRtW g u (items i) s H W)
    (rest : ∀ s, Iv n s → RtW tz s H W) : RtW (tSeq (tFor wi g u) tz) σ H W := fun H1 e D q =>
  h H1 e _ fun J H2 e2 G => by
    refine ⟨fun i m s H3 => m = n - i ∧ i ≤ n ∧ Iv i s ∧ Ex H2 H3, ⟨n, by simp, Nat.zero_le _, i0, Ex.refl _⟩, ?_⟩
    rintro i m s H3 ⟨rfl, hi, hv, e3⟩
    by_cases hlt : i < n
    · refine .inr ⟨G.go i H3 e3 hlt, fun s' H' => Iv (i + 1) s' ∧ Ex H2 H', fun s' H' p => ⟨n - (i + 1), by omega, rfl, hlt, p.1, p.2⟩, fun x H' y => ?_⟩
      obtain ⟨rfl, rfl⟩ := G.yld i x H3 H' e3 hlt y
      rcases hs i s hlt hv with z | z
      · exact z _ ((e.trans e2).trans e3) _ fun s' H4 e4 p => ⟨p, e3.trans e4⟩
      · exact z _ ((e.trans e2).trans e3) _ fun v H4 e4 w => q v H4 ((e2.trans e3).trans e4) w
    · obtain rfl : i = n := by omega
      exact .inl ⟨G.stop _ e3, rest s hv H3 ((e.trans e2).trans e3) D fun v H4 e4 w => q v H4 ((e2.trans e3).trans e4) w⟩
theorem rtwp_for0 {wi : TI} {items : Nat → V} {n : Nat} {g : TG} {u : TS} {σ : L2.St} {H : Hp} {W : V → Hp → Prop} (Iv : Nat → L2.St → Prop) (i0 : Iv 0 σ) (h : EvI wi σ H items n) (hs : ∀ i s, i < n → Iv i s → GNxP g u (items i) s H (Iv (i + 1)) ∨ GRtW g u (items i) s H W)
    (rest : ∀ s, Iv n s → False) : RtW (tFor wi g u) σ H W := fun H1 e D q =>
  h H1 e _ fun J H2 e2 G => by
    refine ⟨fun i m s H3 => m = n - i ∧ i ≤ n ∧ Iv i s ∧ Ex H2 H3, ⟨n, by simp, Nat.zero_le _, i0, Ex.refl _⟩, ?_⟩
    rintro i m s H3 ⟨rfl, hi, hv, e3⟩
    by_cases hlt : i < n
    · refine .inr ⟨G.go i H3 e3 hlt, fun s' H' => Iv (i + 1) s' ∧ Ex H2 H', fun s' H' p => ⟨n - (i + 1), by omega, rfl, hlt, p.1, p.2⟩, fun x H' y => ?_⟩
      obtain ⟨rfl, rfl⟩ := G.yld i x H3 H' e3 hlt y
      rcases hs i s hlt hv with z | z
      · exact z _ ((e.trans e2).trans e3) _ fun s' H4 e4 p => ⟨p, e3.trans e4⟩
      · exact z _ ((e.trans e2).trans e3) _ fun v H4 e4 w => q v H4 ((e2.trans e3).trans e4) w
    · obtain rfl : i = n := by omega
      exact (rest s hv).elim
theorem grtw_name2 {j : Nat} {u : TS} {x : V} {σ : L2.St} {H : Hp} {W : V → Hp → Prop} (h : RtW u (σ.set j (some x)) H W) : GRtW (gName j) u x σ H W := fun H1 e D q => h H1 e D q
/-! [f(a, b) for a, b in rows] -/
theorem el_lcP {K : PySem.W.Frag} {σ : L2.St} {H : Hp} {tl te : TE} {tt : TT} {a : Addr} {rs : List (Int × Int)} {i j : Nat} {vs : List Nat} (v : Nat → V) (h : Ev tl σ H (.ref a)) (hx : PairsT H a rs) (hz : rs.length ≤ 40000) (hw : ∀ x y, wipe (((wipe σ vs).set i (some x)).set j (some y)) vs = wipe σ vs)
    (ht : ∀ σ' H1, EvT tt σ' H1 true) (he : ∀ (k : Nat) (q : Int × Int) H1, Ex H H1 → rs[k]? = some q → Ev te (((wipe σ vs).set i (some (.int q.1))).set j (some (.int q.2))) H1 (v k)) :
    EvL (tLc (iList K tl) (gTup K 2 (gCons (gName i) (gCons (gName j) gNil))) tt te vs) σ H (given rs.length (fun _ => true) v) := by
  obtain ⟨ps, h1, h2⟩ := hx
  have len : (ps.map V.ref).length = rs.length := by rw [List.length_map]; exact h2.len
  rw [← len]
  intro H0 e Q q
  refine h H0 e _ fun H1 e1 => ⟨a, rfl, ⟨ps.map V.ref, sq_of ((e.trans e1) _ _ h1)⟩, fun Dl hD => ?_⟩
  refine lc_list (xs := ps.map V.ref) (Cw H1 (fun _ => true) v Dl) ⟨hD, Ex.new hD, upd_same⟩ (fun k H' _ p => sq_of (((e.trans e1).trans p.2.1) _ _ h1)) (fun k x H' hi p => ?_) fun H' p => q Dl H' (fresh_back e1 p.1) (e1.trans p.2.1) p.2.2
  rw [List.getElem?_map] at hi
  obtain ⟨b, hb, eb⟩ := Option.map_eq_some_iff.mp hi
  subst eb
  have hk : k < rs.length := by
    rw [← h2.len]
    exact (List.getElem?_eq_some_iff.mp hb).1
  obtain ⟨b', hb', ht'⟩ := h2.at (getD_some hk)
  rw [hb] at hb'
  cases hb'
  refine ⟨b, [.int (rs.getD k (0, 0)).1, .int (rs.getD k (0, 0)).2], rfl, st_of (((e.trans e1).trans p.2.1) _ _ ht'), rfl, _, _, rfl, _, _, rfl, rfl, hw _ _, ?_⟩
  exact cw_turn p (by omega) (ht _ H1) fun _ => he k _ H1 (e.trans e1) (getD_some hk)
theorem given_all (n : Nat) (v : Nat → V) : given n (fun _ => true) v = (List.range n).map v := by
  unfold given
  rw [List.filter_eq_self.mpr fun _ _ => rfl]
end Tk
namespace Tk
open PySem PySem.Spec PyProof.Rows L2 Evl
/-! an exception of an own class, held as a value -/
def IsEx (H : Hp) (a D : Addr) : Prop := H a = some (ExO (.ref D) a) ∨ ∃ (d : Addr) (fs : List (Str × V)), H a = some (exo a D (some d)) ∧ H d = some (exd d fs)
theorem IsEx.mono {H H' : Hp} {a D : Addr} (e : Ex H H') (h : IsEx H a D) : IsEx H' a D := h.imp (fun z => e _ _ z) fun ⟨d, fs, h1, h2⟩ => ⟨d, fs, e _ _ h1, e _ _ h2⟩
theorem IsEx.inst {P : Program} {w : World} {H : Hp} {h : Heap} {a D : Addr} (ok : HOk P w H h) (z : IsEx H a D) : ∃ ox od, PySem.W.InstAt h a ox D od := by
  rcases z with z | ⟨d, fs, h1, h2⟩
  · obtain ⟨⟨oe, vs, g, hz, hd, _⟩, _, _⟩ := ok a _ z
    obtain ⟨oc, od, oda, osl⟩ := oe
    obtain ⟨e1, e2⟩ := hz
    dsimp only at e1 e2 hd
    subst e1 e2 hd
    exact ⟨_, none, ⟨g, rfl, rfl, trivial⟩⟩
  · obtain ⟨t1, g⟩ := exo_at ok h1
    obtain ⟨mA, ⟨o, es, ep, ho, _⟩, _⟩ := exd_at ok h2
    exact ⟨_, some o, ⟨g, rfl, rfl, ho⟩⟩
/-- isinstance(e, c) -/
def rIsX (K : PySem.W.Frag) : List V → Hp → VK → Prop := fun xs H Q => ∃ (a D : Addr) (c : V) (cv : Value) (b : Bool), xs = [.ref a, c] ∧ ExcC K D ∧ IsEx H a D ∧ ClsV c cv ∧ PySem.W.kitOne K (.ref D) cv = some b ∧ Q (.bl b) H
theorem call_isX {X : Cx} : CallR X (.builtin "isinstance") (rIsX X.K) := by
  intro pins s σ H xs us Q I r h
  obtain ⟨a, D, c, cv, b, rfl, C, hx, hc, hk, q⟩ := h
  obtain ⟨u, u2, rfl, ru, ru2⟩ := vals2 r
  obtain rfl : u = Value.ref a := ru
  obtain rfl := hc.eq ru2
  obtain ⟨ox, od, J⟩ := hx.inst I.hok
  obtain ⟨cd, hcd, _⟩ := PySem.W.any_some C.hd
  exact PySem.W.kia_one (PySem.W.kitx_exc (by rw [hcd]; rfl) C.hg C.hk C.hs C.ha C.hn C.ht C.hm) I.kIn J hk (fun z => nomatch z) fun tk => ⟨.bl b, H, I.kept (t' := tk) fun _ _ z => z, rfl, q⟩
theorem ev_isX {K : PySem.W.Frag} {σ : L2.St} {H : Hp} {ta tb : TE} {a D : Addr} {c : V} {cv : Value} {b : Bool} (ha : Ev ta σ H (.ref a)) (hb : Ev tb σ H c) (C : ExcC K D) (hx : IsEx H a D) (hc : ClsV c cv) (hk : PySem.W.kitOne K (.ref D) cv = some b) : Ev (tCB (rIsX K) (tCons ta (tCons tb tNil))) σ H (.bl b) := fun H1 e Q q =>
  ha H1 e _ fun H2 e2 => hb H2 (e.trans e2) _ fun H3 e3 => ⟨a, D, c, cv, b, rfl, C, hx.mono ((e.trans e2).trans e3), hc, hk, q H3 (e2.trans e3)⟩
/-- e.f -/
def tXv (K : PySem.W.Frag) (f : Str) (te : TE) : TE := fun σ H Q => te σ H fun x H1 => ∃ (a C d : Addr) (fs : List (Str × V)) (v : V), x = .ref a ∧ ExcC K C ∧ PySem.W.findIn K (.ref C) f = some none ∧ H1 a = some (exo a C (some d)) ∧ H1 d = some (exd d fs) ∧ fs.lookup f = some v ∧ Q v H1
theorem pe_xv {X : Cx} {e : Expr} {te : TE} {pos : Pos} {f : Str} (he : PE X e te) (hb : attributeBase e f X.env (eval e X.env) = eval e X.env := by rfl) : PE X (.Attribute e f pos) (tXv X.K f te) := by
  constructor
  intro pins s σ H Q I h
  refine attr_of hb (thn (he.run pins s σ H _ I h) fun u s1 got => ?_)
  obtain ⟨x, H1, I1, rx, a, C, d, fs, v, ex, T, no, ha, hd, hl, q⟩ := got
  subst ex
  obtain rfl : u = Value.ref a := rx
  obtain ⟨t1, g⟩ := exo_at I1.hok ha
  obtain ⟨mA, hns, hr⟩ := exd_at I1.hok hd
  obtain ⟨od, ho, hlk⟩ := lookIn_ns hns
  obtain ⟨u, hu, ru⟩ := RelO.some_of (v := v) (o := mA f) (by rw [← hl]; exact hr f)
  have J : PySem.W.InstAt s1.heap a _ C (some od) := ⟨g, rfl, rfl, ho⟩
  exact HandSPX.exc_get I1.kIn J T.hg T.hk T.hs (PySem.W.findObj_own T.hd no rfl (by rw [hlk, hu])) (handed_of ru) ⟨v, H1, I1.tok _, ru, q⟩
theorem ev_xv {K : PySem.W.Frag} {σ : L2.St} {H : Hp} {te : TE} {a C d : Addr} {fs : List (Str × V)} {v : V} {f : Str} (h : Ev te σ H (.ref a)) (T : ExcC K C) (no : PySem.W.findIn K (.ref C) f = some none) (ha : H a = some (exo a C (some d))) (hd : H d = some (exd d fs)) (hl : fs.lookup f = some v) : Ev (tXv K f te) σ H v := fun H1 e Q q =>
  h H1 e _ fun H2 e2 => ⟨a, C, d, fs, v, rfl, T, no, (e.trans e2) _ _ ha, (e.trans e2) _ _ hd, hl, q H2 e2⟩
/-- X(text), X without an __init__ -/
theorem evw_exc1 {σ : L2.St} {H : Hp} {ta : TE} {C : Addr} {v : V} (h : Ev ta σ H v) : EvW (fun σ H Q => ta σ H fun _ H1 => ∀ a, H1 a = none → Q (.ref a) (upd H1 a (ExO (.ref C) a))) σ H (fun v H2 => ∃ a, v = .ref a ∧ IsEx H2 a C) := fun H1 e Q q =>
  h H1 e _ fun H2 e2 a na => q _ _ (e2.trans (Ex.new na)) ⟨a, rfl, .inl upd_same⟩
/-! super().__init__(text), first in an own __init__ -/
section
variable {prog : Program} {w : World} {A : Around} {E : Value → Shared → Prop} {h : Heap} {g : Array GenState} {d : Drawn} {t : Nat} {os : OsState}
theorem call_mw {newId i B : String} {bmB : List Value} (FB : ExcBaseFacts B newId i bmB) {nm q : Str} {C N u e t0 : Addr} {bs bm : List Value} {hdct : Bool} {sn : List Str} {sub : List Value} {ab : Bool} {col : Option Bool} {dd dv : Option Addr} {k0 k1 k2 k3 k5 : Option Value} {c2 : Value} {rest : List Value} {Q : Value → Shared → Prop}
    (hC : h.get? C = some (excClassObj nm q C N bs bm hdct sn sub ab col dd k0 k1 k2 k3 k5 newId)) (hu : h.get? u = some (PySem.W.kxs_mw i e)) (he : h.get? e = some (PySem.W.excObj C t0 dv c2)) (hz : rest.length ≤ sizeLine)
    (hq : ∀ h' t1, (∀ b o, b ≠ e → h.get? b = some o → h'.get? b = some o) → h'.get? e = some (PySem.W.excObj C t1 dv c2) → Q .none ⟨h', g, d, t, os⟩) : wpAny (model prog w) A (call (.ref u) rest) Q E ⟨h, g, d, t, os⟩ := by
  refine wpAny_call (codeAny_of_tree ?_)
  show wpAny _ A.in1 (callAny (.ref u) ⟨rest, []⟩) _ _ _
  unfold callAny
  refine wpAny_bind (wpAny_load hu ?_)
  have kind : (Value.type "method-wrapper" == Value.type "method" || Value.type "method-wrapper" == Value.type "builtin_function_or_method" || Value.type "method-wrapper" == Value.type "method-wrapper") = true := by decide
  simp only [PySem.W.kxs_mw, kind, if_true]
  refine PySem.W.KFB.if_so (by decide) (wpAny_bind (PySem.W.check_bound_init FB.toExcCallFacts hC he rfl (wpAny_bind (wpAny_pure (wpAny_pure ?_)))))
  exact ⟨plainId_quiet FB.init.plain _, codeAny_builtin FB.initEntry (PySem.W.exc_init_tree (cls := .ref C) (t0 := t0) (dv := dv) (c2 := c2) (c3 := .none) (b4 := .bool false) he hz fun h' k1 k2 _ => hq h' _ k1 k2)⟩
end
/-- what the written part says of a class whose __init__ says super().__init__ -/
structure SupC (K : PySem.W.Frag) (P : Program) (D f cc cda : Addr) : Prop where
  ox : OexC K D
  cell : ∃ cl cld csl, K.lookup cc = some ⟨cl, cld, .cell (some (.ref D)), csl⟩
  code : ∃ ccl cdd vs ccs file tf, K.lookup cda = some ⟨ccl, cdd, .fields vs, ccs⟩ ∧ (vs[2]? : Option Value) = some (.str file tf) ∧ ((P.main.file : Str) == file) = true
  top : (P.main.scope.names.lookup ("super" : Str)).isSome = false
  self : PySem.W.mroIn K D (.ref D) = some true
  ve : PySem.W.subIn K (.ref D) (.type "ValueError") = some true
  opq : PySem.W.nsIn K cStatics "thirdparty.any" = some none
  sup : PySem.W.ks_superIn K D D "__init__" = some (some (.builtin "ValueError.__init__"))
theorem at_super {X : Cx} {body rest : List Stmt} {f cc cda D : Addr} {fd : FuncData} {ar : Arg} {oc : Value} {od : Option Addr} {osl : Array (Option Value)} {p0 p1 ap pos pos2 : Pos} {e : Expr} {te : TE} {t : TS} {pl : Sem Bool} (S : SupC X.K X.prog D f cc cda) (lk : X.K.lookup f = some ⟨oc, od, .func fd, osl⟩)
    (hms : X.mg "super" = none) (hfu : X.env.func = some f) (hco : X.env.code = .ref cda) (hcl : X.env.cells.lookup ("__class__" : Str) = some cc) (hks : X.env.kindOf "super" = some .globalImplicit) (hkc : X.env.kindOf "__class__" = some .free) (hka : X.env.kindOf ar.arg = some .local)
    (hp : (fd.params.posonlyargs ++ fd.params.args).head? = some ar) (hN : X.N[0]? = some ar.arg) (he : PE X e te) (hrest : PSs X rest t) {pins : List (Addr × Obj)} {σ : L2.St} {H : Hp} {s : Shared} {a : Addr} {Dn : Ends} (I : Inv X pins σ H s) (hσ : σ[0]? = some (some (.ref a))) (ha : H a = some (exo a D none)) (hv : EvW te σ H (fun _ _ => True)) (q : ∀ H1, Ex H H1 → t Dn σ H1)
    (hi : interactive X.env = false := by rfl) (hs : swapsWith (.Call (.Attribute (.Call (.Name "super" p0) [] [] p1) "__init__" ap) [e] [] pos) none pos2.line X.env = pure false := by rfl)
    (hc : eval (.Call (.Attribute (.Call (.Name "super" p0) [] [] p1) "__init__" ap) [e] [] pos) X.env = (do
      let ov ← attributeBase (.Call (.Name "super" p0) [] [] p1) "__init__" X.env (eval (.Call (.Name "super" p0) [] [] p1) X.env)
      standAt ap.atName
      let (f, first) ← holding [ov] (getMethod ov "__init__" pl)
      callWith pos f first (backTo pos (starEach [e] X.env)) []) := by rfl)
    (hst : starEach [e] X.env = (false, eval e X.env) :: starEach [] X.env := by rfl) (hpl : (backTo pos (starEach [] X.env)).any (·.1) = false := by rfl) :
    _root_.PySem.wpAt (model X.prog X.w) X.A (.func body X.env) (execs (.Expr (.Call (.Attribute (.Call (.Name "super" p0) [] [] p1) "__init__" ap) [e] [] pos) pos2 :: rest) X.env) (SP X pins Dn) X.xe s := by
  obtain ⟨hh, g, d, t0, os⟩ := s
  have X1 : X.K.In hh := I.kIn
  obtain ⟨ccl, cdd, vsc, ccs, file, tf, hcode, hvs, hfile⟩ := S.code
  obtain ⟨cl, cld, csl, hcell⟩ := S.cell
  obtain ⟨nm, qn, N', bs, bm, sn, sub, ab, col, dd, k0, k1, k2, k3, k5, hC, hbm⟩ := S.ox.cls
  obtain ⟨t1, hx⟩ := exo_at I.hok ha
  obtain ⟨m, hns, hloc⟩ := I.loc
  obtain ⟨mb, hb1, hb2⟩ := I.mod.blt
  have self : m ar.arg = some (.ref a) := by
    obtain ⟨u, ru, look⟩ := hloc 0 ar.arg (.ref a) hN hσ (Or.inl hka)
    obtain rfl : u = Value.ref a := ru
    rcases look with ⟨_, z⟩ | ⟨z, _⟩
    · exact z
    · rcases z with z | z <;> rw [hka] at z <;> cases z
  refine PySem.ks_wpAt_execs_cons (PySem.ks_wpAt_Expr_any (PySem.ks_wpAt_MethodCall (pl := pl) ?_ hc) hi hs)
  have hD := X1 _ _ hC
  refine PySem.ks_wpAt_super_base hks hkc (by decide) hfu (X1 _ _ lk) rfl hp hco (X1 _ _ hcode) rfl hvs hfile S.top ?_
  refine PySem.W.ks_loadName_global I.ok.kind hks (Calls.loadGlobal_builtin (by rw [I.ok.glob]; exact I.mod.glob.keeps I.bk) hms (by rw [I.ok.blt]; exact hb1.keeps I.bk) ((hb2 _ (by decide +kernel)).trans PyProof.Rows.Boot.super) ⟨rfl, ?_⟩)
  refine wpAny_loadName_free I.ok.kind hkc hcl ⟨_, X1 _ _ hcell, rfl⟩ ?_
  refine wpAny_loadName_local I.ok.kind hka hns self ?_
  refine PySem.ks_wpAny_isType_cls hD rfl ⟨rfl, ?_⟩
  refine PySem.ks_wpAny_call_super hD rfl hx rfl (fun c z => by cases z) (PySem.W.looks_mroIn X1 S.self) fun h2 hso kk => ?_
  have I2 : Inv X pins σ H ⟨h2, g, d, t0, os⟩ := I.kept kk
  have X2 : X.K.In h2 := I2.kIn
  have J2 : PySem.W.InstAt h2 a _ D none := ⟨kk _ _ hx, rfl, rfl, trivial⟩
  cases hcd : PySem.W.clsIn X.K D with
  | none =>
    have z := S.sup
    unfold PySem.W.ks_superIn at z
    rw [hcd] at z
    cases z
  | some cd =>
    have sup := S.sup
    unfold PySem.W.ks_superIn at sup
    rw [hcd] at sup
    refine PySem.W.kxs_getMethod PySem.W.kxs_ValueError hso (PySem.W.looks_opaque X2 S.opq) (l₀ := cd.mro) (fun A Q E s k q => wpAny_bind ((PySem.W.looks_clsIn X2 hcd) A _ E s k (wpAny_pure q))) rfl X2 sup (J2.type.andThen (PySem.W.looks_subIn X2 S.ve)) (PySem.W.ks_ne X2 J2 hcd) (by decide) ?_
    have push : ∀ b o, h2.get? b = some o → (h2.push (PySem.W.kxs_mw "ValueError.__init__" a)).get? b = some o := fun b o z => Heap.get?_push_of_some _ z
    have I3 : Inv X pins σ H ⟨h2.push (PySem.W.kxs_mw "ValueError.__init__" a), g, d, t0 + 1, os⟩ := I2.kept push
    have hu : (h2.push (PySem.W.kxs_mw "ValueError.__init__" a)).get? h2.objs.size = some (PySem.W.kxs_mw "ValueError.__init__" a) := Heap.get?_push_size _ rfl
    have below : ∀ b, (∃ o, h2.get? b = some o) → h2.objs.size ≠ b := fun b ⟨o, z⟩ => Ne.symm (Nat.ne_of_lt (Heap.lt_size z))
    have I4 : Inv X ((h2.objs.size, PySem.W.kxs_mw "ValueError.__init__" a) :: pins) σ H ⟨h2.push (PySem.W.kxs_mw "ValueError.__init__" a), g, d, t0 + 1, os⟩ := I3.pins_of fun p hp => by
      rcases List.mem_cons.mp hp with rfl | hp
      · refine ⟨hu, I2.hok.fresh (Nat.le_refl _), ?_, fun z => ?_, fun v z => by cases z⟩
        · obtain ⟨m2, ⟨o, es, ep, z, _⟩, _⟩ := I2.loc
          exact below _ ⟨o, z⟩
        · obtain ⟨_, o, z1, _⟩ := I2.ok.funs.mem z
          obtain ⟨o2, z2⟩ := I2.base.there _ o z1 fun w => I2.ok.exfs _ w z
          exact below _ ⟨o2, z2⟩ rfl
      · exact I3.pin p (List.mem_append_right _ hp)
    have args := (pa_cons (hs := hst) he pa_nil).run pos _ _ σ H (fun vs H2 => vs.length = 1 ∧ Ex H H2) I4 (hv H (Ex.refl H) _ fun v H2 e2 _ => ⟨rfl, e2⟩)
    rw [hst] at args ⊢
    refine PySem.W.kxs_callWith (i := "ValueError.__init__") (x := a) (by show (false || (backTo pos (starEach [] X.env)).any (·.1)) = false; rw [hpl]; rfl) (PySem.Calls.evalArgs_plain (thn args fun us s4 got => ?_))
    obtain ⟨vs, H4, I5, r5, ev, e4⟩ := got
    have hu4 : s4.heap.get? h2.objs.size = some (PySem.W.kxs_mw "ValueError.__init__" a) := (I5.pin (h2.objs.size, PySem.W.kxs_mw "ValueError.__init__" a) (List.mem_append_right _ List.mem_cons_self)).1
    refine ⟨hu4, ?_⟩
    have ha4 := e4 _ _ ha
    obtain ⟨t4, hx4⟩ := exo_at I5.hok ha4
    have X5 := I5.kIn
    obtain ⟨h4, g4, d4, tk4, os4⟩ := s4
    refine call_mw F.excBase_ValueError (X5 _ _ hC) hu4 hx4 (by show us.length ≤ sizeLine; rw [← r5.length, ev, sizeLine_eq]; omega) fun h5 t5 k6 hx5 => ?_
    have J5 := I5.write (t' := tk4) (x := a) (e := a) (o := exo a D none) (by rw [ha4]; exact True.intro) (.inl rfl) k6 ⟨_, hx5⟩ (exo_ok hx5)
    have eu : upd H4 a (exo a D none) = H4 := by
      funext b
      by_cases hb : b = a
      · rw [hb, upd_same, ha4]
      · rw [upd_ne hb]
    rw [eu] at J5
    have J6 : Inv X pins σ H4 ⟨h5, g4, d4, tk4, os4⟩ := J5.pins_of fun p hp => J5.pin p (List.mem_append_right _ (List.mem_cons_of_mem _ hp))
    exact wpAt_of_wpAny (hrest.run pins _ σ H4 Dn J6 (q H4 e4))
/-- an __init__ that says super().__init__ first: its frame -/
abbrev nfS (qual : Str) (st : Stmt) (cc cda : Addr) : NdefX.NF := ⟨"__init__", qual, C8.fnArgs st, C8.fnBody st, C8.fnScope st, [("__class__", cc)], cda⟩
section
variable {P : Program} {w : World} {K : PySem.W.Frag} {mg : Str → Option Value} {base : Heap}
theorem fn_sup {qual : Str} {st : Stmt} {f D cc cda : Addr} {oc kV doc pm ct : Value} {od an : Option Addr} {osl : Array (Option Value)} {N ps : List Str} {k : Nat} {sp : Sp}
    (lk : K.lookup f = some ⟨oc, od, .func (PySem.W.fnX "__init__" qual (C8.fnArgs st) (C8.fnBody st) (C8.fnScope st) [("__class__", cc)] .none kV doc pm an (.ref cda) ct), osl⟩) (hcd : PySem.W.codeIn K (.ref cda) qual = true) (hcc : ∃ cl cld csl, K.lookup cc = some ⟨cl, cld, .cell (some (.ref D)), csl⟩)
    (S : NdefX.NScope N ps ["__class__"] (C8.fnScope st)) (len : ∀ vs H Q E, sp vs H Q E → vs.length = ps.length)
    (hbody : ∀ (A : Around) (outer : List Env) (s s1 : Shared) (H : Hp) (vs : List V) (Q : VK) (E : XK), Room k (A.deeper (NdefX.envF (nfS qual st cc cda) f s.heap.objs.size)) → sp vs H Q E → Inv (NdefX.ncx C8.CX0 P w K mg base N (nfS qual st cc cda) f A outer s H E) [] (NdefX.startF N vs [some (.ref D)]) H s1 →
      _root_.PySem.wpAt (model P w) (A.deeper (NdefX.envF (nfS qual st cc cda) f s.heap.objs.size)) (.func (C8.fnBody st) (NdefX.envF (nfS qual st cc cda) f s.heap.objs.size)) (execs (C8.fnBody st) (NdefX.envF (nfS qual st cc cda) f s.heap.objs.size))
        (SP (NdefX.ncx C8.CX0 P w K mg base N (nfS qual st cc cda) f A outer s H E) [] { nx := fun _ H' => Q .non H', rt := Q }) (NdefX.ncx C8.CX0 P w K mg base N (nfS qual st cc cda) f A outer s H E).xe s1) :
    FnOk P w K mg base C8.CX0 (k + 1) f (PySem.W.fnX "__init__" qual (C8.fnArgs st) (C8.fnBody st) (C8.fnScope st) [("__class__", cc)] .none kV doc pm an (.ref cda) ct) ps sp := by
  refine ⟨len, fun A outer s H args us vs Q E room st0 bnd vals ok => ?_⟩
  have kin : K.In s.heap := st0.mod.kin.keeps fun b o z => (st0.bs b o z).1
  have nolim : s.heap.NoLimit := st0.mod.nolimit.keeps fun b o z => (st0.bs b o z).1
  have many : vs.length = ps.length := len _ _ _ _ ok
  obtain ⟨cl, cld, csl, hcell⟩ := hcc
  have one : ∀ y c, ([("__class__", cc)] : List (Str × Addr)).lookup y = some c → y = "__class__" ∧ c = cc := fun y c e => by
    cases List.mem_singleton.mp (PySem.mem_of_lookup e)
    exact ⟨rfl, rfl⟩
  have at_ : s.heap.IsCell cc (some (.ref D)) := ⟨_, kin _ _ hcell, rfl⟩
  have cells : NdefX.CellsAt [("__class__", cc)] ["__class__"] [some (.ref D)] s.heap H := by
    refine ⟨rfl, fun y c e => ?_, fun x y c e1 e2 => (one x c e1).1.trans (one y c e2).1.symm, fun i y e => ?_⟩
    · rw [(one y c e).2]
      exact ⟨(st0.bs cc _ (st0.mod.kin cc _ hcell)).2, _, at_⟩
    · cases i with
      | zero =>
        rw [List.getElem?_cons_zero] at e
        injection e with e
        subst e
        refine ⟨cc, rfl, fun v ev => ⟨.ref D, ?_, at_⟩⟩
        rw [List.getElem?_cons_zero] at ev
        injection ev with ev
        injection ev with ev
        subst ev
        rfl
      | succ i => simp at e
  refine PySem.ks_codeAny_call_defAt (fd := PySem.W.fnX "__init__" qual (C8.fnArgs st) (C8.fnBody st) (C8.fnScope st) [("__class__", cc)] .none kV doc pm an (.ref cda) ct) (body := C8.fnBody st) (binds := ps.zip us) room.depth (kin f _ lk) rfl nolim (PySem.W.codeRec_of kin hcd) rfl bnd S.nocell (fun y hy => S.par y.1 (List.of_mem_zip (show (y.1, y.2) ∈ ps.zip us from hy)).1) (fun h0 hns keep => ?_) S.co S.gen S.kind
  have I : Inv (NdefX.ncx C8.CX0 P w K mg base N (nfS qual st cc cda) f A outer s H E) [] (NdefX.startF N vs [some (.ref D)]) H { s with heap := h0, toks := s.toks + (ps.zip us).length } := NdefX.inv_startN S room.hd st0 many vals cells hns keep
  refine PySem.ks_wpAt_mono (hbody A outer s _ H vs Q E (room.deeper _) ok I) (fun fl s2 done => ?_) fun _ _ z => z
  match fl, done with
  | .ret u, ⟨v, σ2, H2, J, rv, q⟩ => exact ⟨v, H2, J.os, J.bare, J.base, J.hok, rv, q⟩
  | .next, ⟨σ2, H2, J, q⟩ => exact ⟨V.non, H2, J.os, J.bare, J.base, J.hok, rfl, q⟩
  | .brk, ⟨_, _, _, q⟩ => exact q.elim
  | .cont, ⟨_, _, _, q⟩ => exact q.elim
end
/-- X(..), X with such an __init__: the new exception -/
def tMkX (C : Addr) (sp : Sp) (ta : TA) : TE := fun σ H Q => ta σ H fun vs H1 => vs.length ≤ 1000 ∧ ∀ a, H1 a = none → sp (.ref a :: vs) (upd H1 a (exo a C none)) (fun v H2 => v = .non ∧ Q (.ref a) H2) C8.E0
theorem pe_mkX {X : Cx} {x : Str} {C fI : Addr} {k j : Nat} {fd : FuncData} {ps : List Str} {sp : Sp} {e : Expr} {es : List Expr} {ta : TA} {p pos : Pos} (T : OexC X.K C) (iC : PySem.W.findIn X.K (.ref C) "__init__" = some (some (.ref fI))) (tI : PySem.W.typeIn X.K (.ref fI) = some (.type "function"))
    (F1 : FnOk X.prog X.w X.K X.mg X.base C8.CX0 k fI fd ps sp) (hr : Room j X.A) (hk : k + 1 ≤ j) (hb : Binds X.K fd ps []) (hg : Gl X x) (hm : X.mg x = some (.ref C)) (ha : PA X (e :: es) ta) (hdb : (x == ("__debug__" : Str)) = false := by decide)
    (he : starEach (e :: es) X.env = (false, eval e X.env) :: starEach es X.env := by rfl) (hpl : (backTo pos (starEach es X.env)).any (·.1) = false := by rfl) : PE X (.Call (.Name x p) (e :: es) [] pos) (tMkX C sp ta) := by
  constructor
  intro pins s σ H Q I h
  obtain ⟨nm, q, N, bs, bm, sn, sub, ab, col, dd, k0, k1, k2, k3, k5, hC, hbm⟩ := T.cls
  refine wpAny_Call_Name_kw (ld_glob I hg hm (PySem.W.callWith_K (h₀ := X.base) I.ok.mod.kin T.kC (thn (ha.run pos pins s σ H _ I h) fun us s1 got => ?_) he hpl) hdb)
  obtain ⟨vs, H1, I1, r1, hz, q1⟩ := got
  refine ⟨I1.kIn, ?_⟩
  show wpAny _ _ (call (.ref C) us) _ _ _
  obtain ⟨hp, g, dr, tk, os⟩ := s1
  have hq := q1 (hp.objs.size + 1) (I1.hok.fresh (Nat.le_succ _))
  have grow : ∀ b o, hp.get? b = some o → ((hp.push (PySem.W.kdv_tup us)).push (PySem.HandSPX.excO C hp.objs.size)).get? b = some o := fun b o z => Heap.get?_push_of_some _ (Heap.get?_push_of_some _ z)
  have there : ((hp.push (PySem.W.kdv_tup us)).push (PySem.HandSPX.excO C hp.objs.size)).get? (hp.objs.size + 1) = some (PySem.HandSPX.excO C hp.objs.size) := by heap_get
  have J : Inv X pins σ (upd H1 (hp.objs.size + 1) (exo (hp.objs.size + 1) C none)) ⟨(hp.push (PySem.W.kdv_tup us)).push (PySem.HandSPX.excO C hp.objs.size), g, dr, tk, os⟩ := I1.laid grow (Nat.le_succ _) (exo_ok there)
  have vals : Vals (V.ref (hp.objs.size + 1) :: vs) (Value.ref (hp.objs.size + 1) :: us) := .cons rfl r1
  have many : (Value.ref (hp.objs.size + 1) :: us).length = ps.length := vals.length.symm.trans (F1.len _ _ _ _ hq)
  have bound := hb ⟨(hp.push (PySem.W.kdv_tup us)).push (PySem.HandSPX.excO C hp.objs.size), g, dr, tk, os⟩ (Value.ref (hp.objs.size + 1) :: us) J.kIn (by rw [List.append_nil]; exact many)
  rw [List.append_nil] at bound
  have small : us.length ≤ sizeLine := by
    rw [← r1.length, sizeLine_eq]
    omega
  refine wpAny_call (PySem.HandSPX.call_own F.excBase_ValueError (fun Y => PySem.HandSPX.refsVE_contains Y bm hbm) (I1.kIn _ _ hC) (PySem.W.looks_findIn I1.kIn iC) (fun self => PySem.W.bind_fn I1.kIn self tI) small
    (codeAny_mono (F1.run _ X.stack _ _ _ _ _ _ C8.E0 ((hr.mono hk).make C us []) (J.env0.make C us []) bound vals hq) fun res s2 got => ?_))
  match res, got with
  | .error _, got => exact False.elim got
  | .ok (.ret u), got =>
    obtain ⟨v, H3, J3, rv, ev, q3⟩ := J.after got
    subst ev
    exact ⟨rv, ⟨V.ref (hp.objs.size + 1), H3, J3, rfl, q3⟩⟩
  | .ok .next, got => exact False.elim got
  | .ok .brk, got => exact False.elim got
  | .ok .cont, got => exact False.elim got
/-- what such an __init__ promises: the fields of these arguments -/
def spX (C : Addr) (Dm : List V → Prop) (mk : List V → List (Str × V)) : Sp := fun vs H Q _ => ∃ (a : Addr) (as : List V), vs = .ref a :: as ∧ H a = some (exo a C none) ∧ Dm as ∧ as.length ≤ 1000 ∧ ∀ H2 d, (∀ b o, b ≠ a → H b = some o → H2 b = some o) → H2 a = some (exo a C (some d)) → H2 d = some (exd d (mk as)) → Q .non H2
theorem evw_mkX {σ : L2.St} {H : Hp} {C : Addr} {Dm : List V → Hp → Prop} {mk : List V → List (Str × V)} {ta : TA} {vs : List V} (h : EvA ta σ H vs) (hl : vs.length ≤ 1000) (sp : Sp) (hsp : ∀ H1 a Q, Ex H H1 → H1 a = none → (∀ H2 d, (∀ b o, b ≠ a → (upd H1 a (exo a C none)) b = some o → H2 b = some o) → H2 a = some (exo a C (some d)) → H2 d = some (exd d (mk vs)) → Q .non H2) → sp (.ref a :: vs) (upd H1 a (exo a C none)) Q C8.E0) :
    EvW (tMkX C sp ta) σ H (fun v H2 => ∃ a d, v = .ref a ∧ H2 a = some (exo a C (some d)) ∧ H2 d = some (exd d (mk vs))) := fun H1 e Q q =>
  h H1 e _ fun H2 e2 => ⟨hl, fun a na => hsp H2 a _ (e.trans e2) na fun H3 d keep h1 h2 => ⟨rfl, q _ H3 (e2.trans fun b o hb => keep b o (ne_of_none hb na) (by rw [upd_ne (ne_of_none hb na)]; exact hb)) ⟨a, d, rfl, h1, h2⟩⟩⟩
/-! {t}, t a tuple of numbers -/
theorem repr_nums {prog : Program} {w : World} : ∀ {l : List Int} {its : List Value}, Vals (l.map V.int) its → (∀ i ∈ l, i.natAbs.log2 < 1920) → ReprAll prog w its (l.map fun i => Str.ofString (toString i))
  | [], _, r, _ => by
    cases r
    exact .nil
  | i :: l, _, r, h => by
    cases r with
    | cons r1 r2 =>
      obtain ⟨t, rfl⟩ := r1
      exact .cons (ReprIs.int t (h i List.mem_cons_self)) (repr_nums r2 fun z hz => h z (List.mem_cons_of_mem _ hz))
theorem piled_nums : ∀ l : List Int, (∀ i ∈ l, i.natAbs.log2 < 1920) → piled (l.map fun i => Str.ofString (toString i)) ≤ 2000 * l.length
  | [], _ => Nat.zero_le _
  | i :: l, h => by
    have h1 := int_text_len_1921 (h i List.mem_cons_self)
    have h2 := piled_nums l fun z hz => h z (List.mem_cons_of_mem _ hz)
    rw [List.map_cons, piled_cons, List.length_cons]
    omega
def tFmtN (K : PySem.W.Frag) (te : TE) : TE := fun σ H Q => te σ H fun x H1 => ∃ (a : Addr) (l : List Int), x = .ref a ∧ SqT K H1 a (l.map V.int) ∧ (∀ i ∈ l, i.natAbs.log2 < 1920) ∧ l.length ≤ 4 ∧ ∀ m : Str, m.length ≤ 10000 → Q (.str m) H1
theorem pe_fmtN {X : Cx} {e : Expr} {te : TE} {pos : Pos} {k : Nat} (hr : Room k X.A) (he : PE X e te) : PE X (.FormattedValue e (-1) none pos) (tFmtN X.K te) := by
  constructor
  intro pins s σ H Q I h
  refine wpAny_FormattedValue_plain (thn (he.run pins s σ H _ I h) fun v s1 got => ?_)
  obtain ⟨x, H1, I1, r1, a, l, ex, ht, hb, hl, q⟩ := got
  subst ex
  obtain rfl : v = Value.ref a := r1
  obtain ⟨its, rv, ⟨o, ho, hcl, n, hd⟩, _⟩ := I1.tuple ht
  have h1 := piled_nums l hb
  have h2 := fmt_text (l.map fun i => Str.ofString (toString i))
  have hu := hr.units
  refine fmt_tuple (ts := l.map fun i => Str.ofString (toString i)) (by omega) ho hcl hd (repr_nums rv hb) (Nat.le_trans (m := 10000) (by omega) (by decide)) fun m u tk hm => ⟨.str m, H1, I1.tok _, ⟨u, rfl⟩, q m (by omega)⟩
end Tk
namespace Tk
open PySem PySem.Spec PyProof.Rows L2 Evl
def top (i : Nat) : Stmt := PySem.Challenge.pw_turnstile_k01_refusals_apart.main.body.getD i (.Pass ⟨0, 0, 0, 0⟩)
abbrev s_Never_init : Stmt := inClass (top 11) 0
theorem sc_Never_init : NdefX.NScope ["self", "place", "__class__"] ["self", "place"] ["__class__"] (C8.fnScope s_Never_init) := NdefX.nscope_by (by decide +kernel)
abbrev s_Broken_init : Stmt := inClass (top 12) 0
theorem sc_Broken_init : NdefX.NScope ["self", "k", "stretch", "__class__"] ["self", "k", "stretch"] ["__class__"] (C8.fnScope s_Broken_init) := NdefX.nscope_by (by decide +kernel)
abbrev s_Lcell : Stmt := top 14
theorem sc_Lcell : FnScope ["_law_script", "_law_k", "_law_cell_here", "_law_more"] ["_law_script", "_law_k"] (C8.fnScope s_Lcell) := C8.fnScope_by (by decide +kernel)
abbrev s_Lkinds : Stmt := top 15
theorem sc_Lkinds : FnScope ["_law_e", "_law_found"] ["_law_e"] (C8.fnScope s_Lkinds) := C8.fnScope_by (by decide +kernel)
abbrev s_law : Stmt := top 16
theorem sc_law : FnScope ["_law_script", "_law_text", "_law_place", "_law_stretch", "_law_made", "_law_k", "_law_j"] ["_law_script"] (C8.fnScope s_law) := C8.fnScope_by (by decide +kernel)
/-- what the top has left of the built-ins -/
structure Blt (mg : Str → Option Value) : Prop where
  b_len : mg "len" = none
  b_range : mg "range" = none
  b_isinstance : mg "isinstance" = none
  b_ValueError : mg "ValueError" = none
/-! data compared -/
theorem dp_ints {K : PySem.W.Frag} {H : Hp} : ∀ ns : List Int, DpAll K H (ns.map V.int) (ns.map PyData.int)
  | [] => .nil
  | n :: ns => .cons (.int n) (dp_ints ns)
theorem lay_ints : ∀ ns : List Int, PyData.canLayAll0 (ns.map PyData.int) = true
  | [] => by simp only [List.map_nil, PyData.canLayAll0]
  | n :: ns => by simp only [List.map_cons, PyData.canLayAll0, PyData.canLay0, lay_ints ns, Bool.and_self]
theorem dep_ints : ∀ ns : List Int, PyData.depthAll (ns.map PyData.int) = 0
  | [] => by simp only [List.map_nil, PyData.depthAll]
  | n :: ns => by simp only [List.map_cons, PyData.depthAll, PyData.depth, dep_ints ns, Nat.max_self]
theorem shaped_list {ds : List PyData} (h : PyData.canLayAll0 ds = true) (hd : PyData.depthAll ds ≤ 60) : PySem.SeqAt.shaped (.list ds) = true := by
  unfold PySem.SeqAt.shaped
  rw [Bool.and_eq_true, decide_eq_true_eq]
  refine ⟨by simp only [PyData.canLay0, h], ?_⟩
  simp only [PyData.depth]
  omega
theorem shaped_tuple {ds : List PyData} (h : PyData.canLayAll0 ds = true) (hd : PyData.depthAll ds ≤ 60) : PySem.SeqAt.shaped (.tuple ds) = true := by
  unfold PySem.SeqAt.shaped
  rw [Bool.and_eq_true, decide_eq_true_eq]
  refine ⟨by simp only [PyData.canLay0, h], ?_⟩
  simp only [PyData.depth]
  omega
theorem shaped_ints (ns : List Int) : PySem.SeqAt.shaped (.list (ns.map PyData.int)) = true := shaped_list (lay_ints ns) (by rw [dep_ints]; omega)
theorem shaped_tints (ns : List Int) : PySem.SeqAt.shaped (.tuple (ns.map PyData.int)) = true := shaped_tuple (lay_ints ns) (by rw [dep_ints]; omega)
theorem eqvAll_ints : ∀ ns ms : List Int, PyData.eqvAll (ns.map PyData.int) (ms.map PyData.int) = decide (ns = ms)
  | [], [] => by simp [PyData.eqvAll]
  | [], m :: ms => by simp [PyData.eqvAll]
  | n :: ns, [] => by simp [PyData.eqvAll]
  | n :: ns, m :: ms => by
    simp only [List.map_cons, PyData.eqvAll, PyData.eqv, eqvAll_ints ns ms, List.cons.injEq, Bool.decide_and]
    congr 1
theorem eqv_ints (ns ms : List Int) : PyData.eqv (.list (ns.map PyData.int)) (.list (ms.map PyData.int)) = decide (ns = ms) := by
  simp only [PyData.eqv, eqvAll_ints]
theorem eqv_tints (ns ms : List Int) : PyData.eqv (.tuple (ns.map PyData.int)) (.tuple (ms.map PyData.int)) = decide (ns = ms) := by
  simp only [PyData.eqv, eqvAll_ints]
/-- xs != [] -/
theorem ev_neNil {K : PySem.W.Frag} {σ : L2.St} {H : Hp} {ta : TE} {a : Addr} {ns : List Int} (ha : Ev ta σ H (.ref a)) (hx : SqL K H a (ns.map V.int)) : Ev (tOp (rNeD K) ta (tLst tNil)) σ H (.bl (!decide (ns = []))) :=
  ev_opL (xs := []) ha (el_lst ea_nil (by decide)) fun p H1 hp e => by
    rw [← eqv_ints ns []]
    exact rv_neD (fun H2 e2 => .lst (ex_l (e.trans e2) hx) (dp_ints ns)) (fun H2 e2 => .lst (sq_of (e2 p _ hp)) .nil) (shaped_ints ns) (shaped_ints [])
theorem atI_ints {ns : List Int} {i : Int} (h0 : 0 ≤ i) (h1 : i < (ns.length : Int)) : atI (ns.map V.int) i = some (.int (ns.getD i.toNat 0)) := by
  obtain ⟨j, rfl⟩ : ∃ j : Nat, i = (j : Int) := ⟨i.toNat, by omega⟩
  have hj : j < ns.length := by omega
  refine atI_nat ?_
  rw [List.getElem?_map, Int.toNat_natCast, List.getD_eq_getElem?_getD, List.getElem?_eq_getElem hj]
  rfl
/-! items of displays of numbers -/
inductive Ints : List V → List Int → Prop
  | nil : Ints [] []
  | cons {i : Int} {vs : List V} {ns : List Int} : Ints vs ns → Ints (.int i :: vs) (i :: ns)
theorem Ints.map {vs : List V} {ns : List Int} (h : Ints vs ns) : vs = ns.map V.int := by
  induction h with
  | nil => rfl
  | cons _ ih => rw [ih]; rfl
theorem atI_disp {vs : List V} {ns : List Int} {i : Int} (h : Ints vs ns) (h0 : 0 ≤ i) (h1 : i < (ns.length : Int)) : atI vs i = some (.int (ns.getD i.toNat 0)) := by
  rw [h.map]
  exact atI_ints h0 h1
theorem getD_in {lo hi : Int} : ∀ (l : List Int) (n : Nat), (∀ x ∈ l, lo ≤ x ∧ x ≤ hi) → n < l.length → lo ≤ l.getD n 0 ∧ l.getD n 0 ≤ hi
  | [], _, _, h => absurd h (Nat.not_lt_zero _)
  | x :: _, 0, h, _ => h x List.mem_cons_self
  | _ :: l, n + 1, h, hn => getD_in l n (fun x hx => h x (List.mem_cons_of_mem _ hx)) (Nat.lt_of_succ_lt_succ hn)
def opV : Option Int → V
  | none => .non
  | some i => .int i
local macro_rules | `(tactic| walk_at "tk_at") => `(tactic| fail "tk_at")
local macro_rules | `(tactic| walk_at "tk_at") => `(tactic| exact rfl)
local macro_rules | `(tactic| walk_at "tk_at") => `(tactic| (refine atI_ints ?_ ?_ <;> omega))
local macro_rules | `(tactic| walk_at "tk_at") => `(tactic| (apply atI_disp; (repeat (first | exact Ints.nil | apply Ints.cons)); omega; (simp only [List.length_cons, List.length_nil]; omega)))
local macro_rules | `(tactic| walk_at "tk_len") => `(tactic| (with_reducible apply ev_lenL))
local macro_rules | `(tactic| walk_at "tk_R") => `(tactic| fail "tk_R")
local macro_rules | `(tactic| walk_at "tk_om") => `(tactic| first | omega | (simp only [List.length_map]; omega))
local macro_rules | `(tactic| walk_at "tk_ev") => `(tactic| repeat' (first
  | exact ev_c
  | (with_reducible apply rt_ret)
  | (with_reducible exact rt_retN)
  | (with_reducible apply rt_ifseq)
  | (with_reducible apply rt_seq)
  | (with_reducible apply nx_asg)
  | (with_reducible exact nx_next)
  | (with_reducible apply nx_drop)
  | (with_reducible apply rt_if)
  | (with_reducible apply rtw_ret)
  | (with_reducible apply rtw_seq)
  | ((with_reducible apply ev_var); exact rfl)
  | (with_reducible apply ev_max)
  | (with_reducible apply ev_min)
  | (with_reducible apply ev_intB)
  | (with_reducible apply ev_isN)
  | (with_reducible apply ev_notN)
  | (with_reducible apply ev_if)
  | (with_reducible apply ev_andV)
  | (with_reducible apply ev_orV)
  | (with_reducible apply ev_notV)
  | (with_reducible apply ev_chain)
  | ((with_reducible apply ev_lenI); (with_reducible apply ev_var); exact rfl; assumption)
  | walk_at "tk_len"
  | (with_reducible apply ev_fld)
  | (with_reducible apply ev_pair0)
  | (with_reducible apply ev_pair1)
  | (with_reducible apply ev_ixN)
  | (with_reducible apply ev_ixL)
  | (with_reducible apply ev_ixT)
  | (with_reducible apply ev_methF)
  | (with_reducible apply ev_callF)
  | ((with_reducible show ∀ _, Ex _ _ → _); walk_at "tk_R")
  | (with_reducible apply ev_op)
  | (with_reducible apply ev_un)
  | exact rv_I0
  | ((with_reducible show RV (rI _ _) _ _ _ _); apply rv_I)
  | exact rv_eq rfl
  | exact rv_ne rfl
  | exact ru_neg
  | (with_reducible apply et_test)
  | (with_reducible apply et_B)
  | (with_reducible apply et_and)
  | (with_reducible apply et_or)
  | (with_reducible apply et_not)
  | exact ea_nil
  | (with_reducible apply ea_cons)
  | (with_reducible apply eu_tup)
  | (with_reducible apply el_lst)
  | ((with_reducible show SqL _ _ _ _); assumption)
  | ((with_reducible show PairsT _ _ _); assumption)
  | ((with_reducible show Cls _ _); assumption)
  | ((with_reducible show NoAttr _ _ _); assumption)
  | ((with_reducible show _ = some (HO.ins _ _ _)); assumption)
  | ((with_reducible show List.lookup _ _ = some _); exact rfl)
  | ((with_reducible show List.lookup _ _ = none); exact rfl)
  | ((with_reducible show _[_]? = some _); exact getD_some (by walk_at "tk_om"))
  | ((with_reducible show (0 : Int) ≤ _); walk_at "tk_om")
  | ((with_reducible show SqT _ _ _ _); assumption)
  | ((with_reducible show atI _ _ = some _); walk_at "tk_at")
  | ((with_reducible show CMul _ _); first | (exact .inl (by decide)) | (exact .inr (by decide)) | (exact .inl (by omega)) | (exact .inr (by omega)))
  | ((with_reducible show CDiv _ _); first | (exact ⟨by decide, by decide⟩) | (exact ⟨by walk_at "tk_om", by walk_at "tk_om"⟩))
  | ((with_reducible show CPow _ _); exact ⟨by decide, by decide, by decide⟩)
  | ((with_reducible show _ ≤ 100000); first | decide | (simp only [List.length_cons, List.length_nil]; omega))
  | ((with_reducible show (0 : Int) < _); first | decide | walk_at "tk_om")
  | ((with_reducible show (_ = true → _)); intro)
  | ((with_reducible show (_ = false → _)); intro)))
/-! a drawn number of the script's -/
def mixV (c k : Int) : Int := (c % 2147483647 * (c % 2147483647) % 2147483629 * (c % 2147483647 * (c % 2147483647) % 2147483629) + 69621 * (c % 2147483647 * (c % 2147483647) % 2147483629) + k) % 2147483587
def cellV (ns : List Int) (k : Int) : Int := mixV (if ns = [] then 7919 * k + 11 else 7919 * k + 11 + ns.getD (k % (ns.length : Int)).toNat 0 * 48271 + 96810 * k + k / (ns.length : Int) * 7919) k
theorem cellV_nn (ns : List Int) (k : Int) : 0 ≤ cellV ns k := Int.emod_nonneg _ (by decide)
theorem cellV_lt (ns : List Int) (k : Int) : cellV ns k < 2147483587 := Int.emod_lt_of_pos _ (by decide)
def RCell (K : PySem.W.Frag) (vs : List V) (H : Hp) (v : V) : Prop := ∃ (a : Addr) (ns : List Int) (k : Int), vs = [.ref a, .int k] ∧ SqL K H a (ns.map V.int) ∧ ns.length ≤ 63 ∧ 0 ≤ k ∧ v = .int (cellV ns k)
section
variable {P : Program} {w : World} {K : PySem.W.Frag} {mg : Str → Option Value} {base : Heap}
theorem cal_Lcell {f : Addr} {fd : FuncData} (T : Blt mg) (F : C8.Def K mg "_law_cell" s_Lcell f fd) (b : Binds K fd ["_law_script", "_law_k"] []) : C8.Cal P w K mg base 1 "_law_cell" (spF (RCell K)) [] := by
  refine calF F b sc_Lcell (fun vs H v h => ?_) (fun cdv A outer s H vs v E hr h => ?_)
  · obtain ⟨a, ns, k, rfl, _⟩ := h
    rfl
  · obtain ⟨a, ns, k, rfl, hS, hl, hk, rfl⟩ := h
    refine ⟨_, (pss_cons (ps_set (i := 2) sc_Lcell.nd rfl (Or.inl rfl) (pe_op op_add (pe_op op_mul pe_int (pv 1)) pe_int))
  (pss_cons (ps_if (pt_cmpR (op_neD hr.units) (pv 0) (pe_lst pa_nil) (nomark _))
    (pss_cons (ps_set (i := 2) sc_Lcell.nd rfl (Or.inl rfl) (pe_op op_add (pe_op op_add (pv 2) (pe_op op_mul (pe_ix ix_list (pv 0) (pe_op op_mod (pv 1) (pe_callB call_len_seq (by rfl) T.b_len boot_len (pa_cons (pv 0) pa_nil))) (fun _ _ => rfl)) pe_int)) (pe_op op_mul pe_int (pv 1))))
    (pss_one (ps_set (i := 2) sc_Lcell.nd rfl (Or.inl rfl) (pe_op op_add (pv 2) (pe_op op_mul (pe_op op_fdiv (pv 1) (pe_callB call_len_seq (by rfl) T.b_len boot_len (pa_cons (pv 0) pa_nil))) pe_int)))))
    pss_nil)
  (pss_cons (ps_set (i := 3) sc_Lcell.nd rfl (Or.inl rfl) (pe_op op_mod (pv 2) pe_int))
  (pss_cons (ps_set (i := 3) sc_Lcell.nd rfl (Or.inl rfl) (pe_op op_mod (pe_op op_mul (pv 3) (pv 3)) pe_int))
  (pss_one (ps_ret (pe_op op_mod (pe_op op_add (pe_op op_add (pe_op op_mul (pv 3) (pv 3)) (pe_op op_mul pe_int (pv 3))) (pv 1)) pe_int))))))), ?_⟩
    have m1 : ∀ c : Int, 0 ≤ c % 2147483647 ∧ c % 2147483647 < 2147483647 := fun c => ⟨Int.emod_nonneg _ (by decide), Int.emod_lt_of_pos _ (by decide)⟩
    have m2 : ∀ c : Int, 0 ≤ c % 2147483629 ∧ c % 2147483629 < 2147483629 := fun c => ⟨Int.emod_nonneg _ (by decide), Int.emod_lt_of_pos _ (by decide)⟩
    refine rt_seq (nx_asg (v := .int (7919 * k + 11)) (by walk_at "tk_ev")) ?_
    refine rt_seq (σ' := [some (.ref a), some (.int k), some (.int (if ns = [] then 7919 * k + 11 else 7919 * k + 11 + ns.getD (k % (ns.length : Int)).toNat 0 * 48271 + 96810 * k + k / (ns.length : Int) * 7919)), none]) (nx_if (et_test (ev_neNil (ev_var rfl) hS)) (fun hb => ?_) (fun hb => ?_)) ?_
    · have hne : ns ≠ [] := by simpa using hb
      rw [if_neg hne]
      have hp : 0 < (ns.length : Int) := by
        have := List.length_pos_iff.mpr hne
        omega
      have q0 : 0 ≤ k % (ns.length : Int) := Int.emod_nonneg _ (by omega)
      have q1 : k % (ns.length : Int) < (ns.length : Int) := Int.emod_lt_of_pos _ hp
      refine nx_seq (nx_asg (v := .int (7919 * k + 11 + ns.getD (k % (ns.length : Int)).toNat 0 * 48271 + 96810 * k)) ?_) (nx_asg (v := .int (7919 * k + 11 + ns.getD (k % (ns.length : Int)).toNat 0 * 48271 + 96810 * k + k / (ns.length : Int) * 7919)) ?_)
      · walk_at "tk_ev"
      · walk_at "tk_ev"
    · have hne : ns = [] := by simpa using hb
      rw [if_pos hne]
      exact nx_next
    · unfold cellV
      generalize (if ns = [] then 7919 * k + 11 else 7919 * k + 11 + ns.getD (k % (ns.length : Int)).toNat 0 * 48271 + 96810 * k + k / (ns.length : Int) * 7919) = c at *
      have c1 := m1 c
      have c2 := m2 (c % 2147483647 * (c % 2147483647))
      walk_at "tk_ev"
end
/-! the refusals -/
structure Rf (K : PySem.W.Frag) (mg : Str → Option Value) (x : Str) (C : Addr) : Prop where
  g : mg x = some (.ref C)
  x : PySem.W.excIn K C [.type "ValueError", .type "Exception", .type "BaseException", .type "object"] "ValueError.__new__" = true
  k : PySem.W.keepIn K (.ref C) = true
structure Xf (K : PySem.W.Frag) (mg : Str → Option Value) (x : Str) (C fI : Addr) (fd : FuncData) (ps : List Str) : Prop where
  g : mg x = some (.ref C)
  ox : OexC K C
  ii : PySem.W.findIn K (.ref C) "__init__" = some (some (.ref fI))
  it : PySem.W.typeIn K (.ref fI) = some (.type "function")
  bi : Binds K fd ps []
structure Kds (K : PySem.W.Frag) (mg : Str → Option Value) (cG : Addr) (cs : Nat → Addr) : Prop where
  c_GateError : mg "GateError" = some (.ref cG)
  c_NoBound : mg "NoBound" = some (.ref (cs 0))
  c_NoMoment : mg "NoMoment" = some (.ref (cs 1))
  c_NoCost : mg "NoCost" = some (.ref (cs 2))
  c_NoName : mg "NoName" = some (.ref (cs 3))
  c_NoPlace : mg "NoPlace" = some (.ref (cs 4))
  c_NoVisit : mg "NoVisit" = some (.ref (cs 5))
  c_Late : mg "Late" = some (.ref (cs 6))
  c_Full : mg "Full" = some (.ref (cs 7))
  c_BadRow : mg "BadRow" = some (.ref (cs 8))
  c_Never : mg "Never" = some (.ref (cs 9))
  c_Broken : mg "Broken" = some (.ref (cs 10))
  ex : ∀ i, i < 11 → ExcC K (cs i)
  kG : ∀ i, i < 11 → PySem.W.kitOne K (.ref (cs i)) (.ref cG) = some true
  kV : ∀ i, i < 11 → PySem.W.kitOne K (.ref (cs i)) (.type "ValueError") = some true
  kk : ∀ i j, i < 11 → j < 11 → PySem.W.kitOne K (.ref (cs i)) (.ref (cs j)) = some (decide (i = j))
def fNever (p : Int) : List (Str × V) := [("place", .int p)]
def fBroken (k : Int) (st : Addr) : List (Str × V) := [("stretch", .ref st), ("k", .int k)]
def spNever (C : Addr) : Sp := fun vs H Q _ => ∃ (a : Addr) (p : Int), vs = [.ref a, .int p] ∧ p.natAbs.log2 < 1920 ∧ H a = some (exo a C none) ∧ ∀ H2 d, (∀ b o, b ≠ a → H b = some o → H2 b = some o) → H2 a = some (exo a C (some d)) → H2 d = some (exd d (fNever p)) → Q .non H2
def spBroken (K : PySem.W.Frag) (C : Addr) : Sp := fun vs H Q _ => ∃ (a st : Addr) (k x y : Int), vs = [.ref a, .int k, .ref st] ∧ k.natAbs.log2 < 1920 ∧ SqT K H st [.int x, .int y] ∧ x.natAbs.log2 < 1920 ∧ y.natAbs.log2 < 1920 ∧ H a = some (exo a C none) ∧
  ∀ H2 d, (∀ b o, b ≠ a → H b = some o → H2 b = some o) → H2 a = some (exo a C (some d)) → H2 d = some (exd d (fBroken k st)) → Q .non H2
theorem app_le {x y : Str} {a b : Nat} (h1 : x.length ≤ a) (h2 : y.length ≤ b) : (x ++ y).length ≤ a + b := by
  rw [strLen_append]
  omega
theorem num_le {i : Int} (h : i.natAbs.log2 < 1920) : (toString i : Str).length ≤ 1921 := int_text_len_1921 h
section
variable {P : Program} {w : World} {K : PySem.W.Frag} {mg : Str → Option Value} {base : Heap} {C f cc cda : Addr}
theorem ok_Never {oc kV doc pm ct : Value} {od an : Option Addr} {osl : Array (Option Value)} (S : SupC K P C f cc cda) (hms : mg "super" = none) (no : PySem.W.findIn K (.ref C) "place" = some none)
    (lk : K.lookup f = some ⟨oc, od, .func (PySem.W.fnX "__init__" "Never.__init__" (C8.fnArgs s_Never_init) (C8.fnBody s_Never_init) (C8.fnScope s_Never_init) [("__class__", cc)] .none kV doc pm an (.ref cda) ct), osl⟩) (hcd : PySem.W.codeIn K (.ref cda) "Never.__init__" = true) :
    FnOk P w K mg base C8.CX0 1 f (PySem.W.fnX "__init__" "Never.__init__" (C8.fnArgs s_Never_init) (C8.fnBody s_Never_init) (C8.fnScope s_Never_init) [("__class__", cc)] .none kV doc pm an (.ref cda) ct) ["self", "place"] (spNever C) := by
  refine fn_sup (N := ["self", "place", "__class__"]) lk hcd S.cell sc_Never_init (fun vs H Q E h => ?_) (fun A outer s s1 H vs Q E hr h I => ?_)
  · obtain ⟨a, p, rfl, _⟩ := h
    rfl
  · obtain ⟨a, p, rfl, hp, ha, q⟩ := h
    refine at_super (X := NdefX.ncx C8.CX0 P w K mg base ["self", "place", "__class__"] (nfS "Never.__init__" s_Never_init cc cda) f A outer s H E) S lk hms rfl rfl rfl rfl rfl rfl rfl rfl (pe_joined (.cons pe_str (.cons (pe_fmt (pv 1)) (.cons pe_str .nil)))) (pss_one (ps_ost (pv 0) (pv 1))) I rfl ha ?_ ?_
    · intro H1 e Q2 q2
      refine ⟨_, rfl, by decide +kernel, _, rfl, Or.inr ⟨p, rfl, hp, _, rfl, ?_, _, rfl, ?_, q2 _ H1 (Ex.refl H1) True.intro⟩⟩
      · exact Nat.le_trans (app_le (a := 1000) (by decide +kernel) (num_le hp)) (by decide)
      · exact Nat.le_trans (app_le (b := 1000) (app_le (a := 1000) (by decide +kernel) (num_le hp)) (by decide +kernel)) (by decide)
    · intro H1 e1
      refine ⟨_, rfl, _, rfl, a, C, rfl, S.ox, no, .inl ⟨e1 _ _ ha, fun dx n ne => ?_⟩⟩
      refine q _ dx (fun b o hb hz => ?_) upd_same ?_
      · rw [upd_ne hb, upd_ne (ne_of_none (e1 _ _ hz) n)]
        exact e1 _ _ hz
      · rw [upd_ne ne]
        exact upd_same
theorem ok_Broken {oc kV doc pm ct : Value} {od an : Option Addr} {osl : Array (Option Value)} (S : SupC K P C f cc cda) (hms : mg "super" = none) (no1 : PySem.W.findIn K (.ref C) "k" = some none) (no2 : PySem.W.findIn K (.ref C) "stretch" = some none)
    (lk : K.lookup f = some ⟨oc, od, .func (PySem.W.fnX "__init__" "Broken.__init__" (C8.fnArgs s_Broken_init) (C8.fnBody s_Broken_init) (C8.fnScope s_Broken_init) [("__class__", cc)] .none kV doc pm an (.ref cda) ct), osl⟩) (hcd : PySem.W.codeIn K (.ref cda) "Broken.__init__" = true) :
    FnOk P w K mg base C8.CX0 1 f (PySem.W.fnX "__init__" "Broken.__init__" (C8.fnArgs s_Broken_init) (C8.fnBody s_Broken_init) (C8.fnScope s_Broken_init) [("__class__", cc)] .none kV doc pm an (.ref cda) ct) ["self", "k", "stretch"] (spBroken K C) := by
  refine fn_sup (N := ["self", "k", "stretch", "__class__"]) lk hcd S.cell sc_Broken_init (fun vs H Q E h => ?_) (fun A outer s s1 H vs Q E hr h I => ?_)
  · obtain ⟨a, st, k, x, y, rfl, _⟩ := h
    rfl
  · obtain ⟨a, st, k, x, y, rfl, hk, hst, hx, hy, ha, q⟩ := h
    refine at_super (X := NdefX.ncx C8.CX0 P w K mg base ["self", "k", "stretch", "__class__"] (nfS "Broken.__init__" s_Broken_init cc cda) f A outer s H E) S lk hms rfl rfl rfl rfl rfl rfl rfl rfl (pe_joined (.cons pe_str (.cons (pe_fmt (pv 1)) (.cons pe_str (.cons (pe_fmtN hr (pv 2)) .nil))))) (pss_cons (ps_ost (pv 0) (pv 1))
  (pss_one (ps_ost (pv 0) (pv 2)))) I rfl ha ?_ ?_
    · intro H1 e Q2 q2
      refine ⟨_, rfl, by decide +kernel, _, rfl, Or.inr ⟨k, rfl, hk, _, rfl, ?_, _, rfl, ?_, _, rfl, st, [x, y], rfl, ex_t e hst, fun i hi => ?_, (show 2 ≤ 4 by decide), fun m hm => ⟨m, rfl, ?_, q2 _ H1 (Ex.refl H1) True.intro⟩⟩⟩
      · exact Nat.le_trans (app_le (a := 1000) (by decide +kernel) (num_le hk)) (by decide)
      · exact Nat.le_trans (app_le (b := 1000) (app_le (a := 1000) (by decide +kernel) (num_le hk)) (by decide +kernel)) (by decide)
      · rcases List.mem_cons.mp hi with rfl | hi
        · exact hx
        · rw [List.mem_singleton.mp hi]
          exact hy
      · exact Nat.le_trans (app_le (app_le (b := 1000) (app_le (a := 1000) (by decide +kernel) (num_le hk)) (by decide +kernel)) hm) (by decide)
    · intro H1 e1
      refine ⟨_, rfl, _, rfl, a, C, rfl, S.ox, no1, .inl ⟨e1 _ _ ha, fun dx n ne => ?_⟩⟩
      refine ⟨_, rfl, _, rfl, a, C, rfl, S.ox, no2, .inr ⟨dx, [("k", .int k)], upd_same, by rw [upd_ne ne]; exact upd_same, (show 1 ≤ 900 by decide), ?_⟩⟩
      refine q _ dx (fun b o hb hz => ?_) ?_ upd_same
      · have nb := ne_of_none (e1 _ _ hz) n
        rw [upd_ne nb, upd_ne hb, upd_ne nb]
        exact e1 _ _ hz
      · rw [upd_ne (Ne.symm ne)]
        exact upd_same
end
/-! of which classes a refusal is -/
theorem rtw_seqL {te : TE} {u : TS} {σ : L2.St} {H : Hp} {xs : List V} {W : V → Hp → Prop} {i : Nat} (h : EvL te σ H xs) (k : ∀ p H1, Ex H H1 → H1 p = some (.lst xs) → RtW u (σ.set i (some (.ref p))) H1 W) : RtW (tSeq (tAsg te (gName i)) u) σ H W := fun H1 e D q =>
  h H1 e _ fun p H2 np e2 hp => k p H2 (e.trans e2) hp H2 (Ex.refl H2) D fun v H3 e3 w => q v H3 (e2.trans e3) w
theorem el_cat {ta tb : TE} {σ : L2.St} {H : Hp} {xs ys : List V} {p : Addr} (ha : Ev ta σ H (.ref p)) (hp : H p = some (.lst xs)) (hb : EvL tb σ H ys) (hz : xs.length + ys.length ≤ 100000) : EvL (tOp rCat ta tb) σ H (xs ++ ys) := fun H1 e Q q =>
  ha H1 e _ fun H2 e2 => hb H2 (e.trans e2) _ fun b H3 nb e3 hb => ⟨p, b, xs, ys, rfl, rfl, ((e.trans e2).trans e3) _ _ hp, hb, sz_of hz, fun r nr => q r _ (fresh_back (e2.trans e3) nr) ((e2.trans e3).trans (Ex.new nr)) upd_same⟩
theorem evw_ofL {te : TE} {σ : L2.St} {H : Hp} {xs : List V} (h : EvL te σ H xs) : EvW te σ H (fun v H2 => ∃ p, v = .ref p ∧ H2 p = some (.lst xs)) := fun H1 e Q q => h H1 e _ fun p H2 _ e2 hp => q _ H2 e2 ⟨p, rfl, hp⟩
def kindsL (i : Nat) : List V := (List.range 11).map fun j => V.bl (decide (i = j))
def RKinds (cs : Nat → Addr) (vs : List V) (H : Hp) (W : V → Hp → Prop) : Prop := ∃ (a : Addr) (i : Nat), i < 11 ∧ vs = [.ref a] ∧ IsEx H a (cs i) ∧ W = fun v H2 => ∃ p, v = .ref p ∧ H2 p = some (.lst (kindsL i))
section
variable {P : Program} {w : World} {K : PySem.W.Frag} {mg : Str → Option Value} {base : Heap} {cG : Addr} {cs : Nat → Addr}
theorem cal_Lkinds {f : Addr} {fd : FuncData} (T : Blt mg) (G : Kds K mg cG cs) (F : C8.Def K mg "_law_kinds" s_Lkinds f fd) (b : Binds K fd ["_law_e"] []) : C8.Cal P w K mg base 1 "_law_kinds" (spW (RKinds cs)) [] := by
  refine calW F b sc_Lkinds (fun vs H v h => ?_) (fun cdv A outer s H vs W E hr h => ?_)
  · obtain ⟨a, i, _, rfl, _⟩ := h
    rfl
  · obtain ⟨a, i, hi, rfl, hx, rfl⟩ := h
    refine ⟨_, (pss_cons (ps_if (PW.pt (pw_or (pt_not (pt_val (pe_callB call_isX (by rfl) T.b_isinstance boot_isinstance (pa_cons (pv 0) (pa_cons (pe_glob (v := .ref cG) rfl G.c_GateError rfl) pa_nil))))) (pw_or1 (pt_not (pt_val (pe_callB call_isX (by rfl) T.b_isinstance boot_isinstance (pa_cons (pv 0) (pa_cons (pe_bltn (v := .ty "ValueError") (by rfl) T.b_ValueError PyProof.Rows.Boot.«ValueError» rfl) pa_nil))))))))
    (pss_one (ps_ret (pe_lst pa_nil)))
    pss_nil)
  (pss_cons (ps_set (i := 1) sc_Lkinds.nd rfl (Or.inl rfl) (pe_lst (pa_cons (pe_callB call_isX (by rfl) T.b_isinstance boot_isinstance (pa_cons (pv 0) (pa_cons (pe_glob (v := .ref (cs 0)) rfl G.c_NoBound rfl) pa_nil))) (pa_cons (pe_callB call_isX (by rfl) T.b_isinstance boot_isinstance (pa_cons (pv 0) (pa_cons (pe_glob (v := .ref (cs 1)) rfl G.c_NoMoment rfl) pa_nil))) (pa_cons (pe_callB call_isX (by rfl) T.b_isinstance boot_isinstance (pa_cons (pv 0) (pa_cons (pe_glob (v := .ref (cs 2)) rfl G.c_NoCost rfl) pa_nil))) (pa_cons (pe_callB call_isX (by rfl) T.b_isinstance boot_isinstance (pa_cons (pv 0) (pa_cons (pe_glob (v := .ref (cs 3)) rfl G.c_NoName rfl) pa_nil))) pa_nil))))))
  (pss_cons (ps_set (i := 1) sc_Lkinds.nd rfl (Or.inl rfl) (pe_op op_cat (pv 1) (pe_lst (pa_cons (pe_callB call_isX (by rfl) T.b_isinstance boot_isinstance (pa_cons (pv 0) (pa_cons (pe_glob (v := .ref (cs 4)) rfl G.c_NoPlace rfl) pa_nil))) (pa_cons (pe_callB call_isX (by rfl) T.b_isinstance boot_isinstance (pa_cons (pv 0) (pa_cons (pe_glob (v := .ref (cs 5)) rfl G.c_NoVisit rfl) pa_nil))) (pa_cons (pe_callB call_isX (by rfl) T.b_isinstance boot_isinstance (pa_cons (pv 0) (pa_cons (pe_glob (v := .ref (cs 6)) rfl G.c_Late rfl) pa_nil))) (pa_cons (pe_callB call_isX (by rfl) T.b_isinstance boot_isinstance (pa_cons (pv 0) (pa_cons (pe_glob (v := .ref (cs 7)) rfl G.c_Full rfl) pa_nil))) pa_nil)))))))
  (pss_one (ps_ret (pe_op op_cat (pv 1) (pe_lst (pa_cons (pe_callB call_isX (by rfl) T.b_isinstance boot_isinstance (pa_cons (pv 0) (pa_cons (pe_glob (v := .ref (cs 8)) rfl G.c_BadRow rfl) pa_nil))) (pa_cons (pe_callB call_isX (by rfl) T.b_isinstance boot_isinstance (pa_cons (pv 0) (pa_cons (pe_glob (v := .ref (cs 9)) rfl G.c_Never rfl) pa_nil))) (pa_cons (pe_callB call_isX (by rfl) T.b_isinstance boot_isinstance (pa_cons (pv 0) (pa_cons (pe_glob (v := .ref (cs 10)) rfl G.c_Broken rfl) pa_nil))) pa_nil)))))))))), ?_⟩
    have isc : ∀ {σ : L2.St} {H1 : Hp} (j : Nat), j < 11 → Ex H H1 → σ[0]? = some (some (.ref a)) → Ev (tCB (rIsX K) (tCons (tVar 0) (tCons (tC (.ref (cs j))) tNil))) σ H1 (.bl (decide (i = j))) := fun j hj e h0 => ev_isX (ev_var h0) ev_c (G.ex i hi) (hx.mono e) (.own _) (G.kk i j hi hj)
    refine rtw_ifseq (b := false) (et_or (a := false) (b := false) (et_not (a := true) (et_B (ev_isX (ev_var rfl) ev_c (G.ex i hi) hx (.own _) (G.kG i hi)))) fun _ => et_not (a := true) (et_B (ev_isX (ev_var rfl) ev_c (G.ex i hi) hx (.ty "ValueError") (G.kV i hi)))) (fun z => by cases z) fun _ => ?_
    refine rtw_seqL (el_lst (ea_cons (isc 0 (by decide) (Ex.refl H) rfl) (ea_cons (isc 1 (by decide) (Ex.refl H) rfl) (ea_cons (isc 2 (by decide) (Ex.refl H) rfl) (ea_cons (isc 3 (by decide) (Ex.refl H) rfl) ea_nil)))) (by simp only [List.length_cons, List.length_nil]; omega)) fun p1 H1 e1 h1 => ?_
    refine rtw_seqL (el_cat (ev_var rfl) h1 (el_lst (ea_cons (isc 4 (by decide) e1 rfl) (ea_cons (isc 5 (by decide) e1 rfl) (ea_cons (isc 6 (by decide) e1 rfl) (ea_cons (isc 7 (by decide) e1 rfl) ea_nil)))) (by simp only [List.length_cons, List.length_nil]; omega)) (by simp only [List.length_cons, List.length_nil]; omega)) fun p2 H2 e2 h2 => ?_
    have e12 := e1.trans e2
    exact rtw_ret (evw_ofL (el_cat (ev_var rfl) h2 (el_lst (ea_cons (isc 8 (by decide) e12 rfl) (ea_cons (isc 9 (by decide) e12 rfl) (ea_cons (isc 10 (by decide) e12 rfl) ea_nil))) (show 3 ≤ 100000 by decide)) (show 8 + 3 ≤ 100000 by decide)))
end
/-! the law -/
def EvAP (ta : TA) (σ : L2.St) (H : Hp) (R : List V → Hp → Prop) : Prop := ∀ H1, Ex H H1 → ∀ Q : List V → Hp → Prop, (∀ vs H2, Ex H1 H2 → R vs H2 → Q vs H2) → ta σ H1 Q
theorem eap_nil {σ : L2.St} {H : Hp} : EvAP tNil σ H (fun vs _ => vs = []) := fun H1 _ _ q => q [] H1 (Ex.refl H1) rfl
theorem eap_cons {te : TE} {tr : TA} {σ : L2.St} {H : Hp} {W : V → Hp → Prop} {R : List V → Hp → Prop} (h : EvW te σ H W) (hW : ∀ v H H', Ex H H' → W v H → W v H') (r : EvAP tr σ H R) : EvAP (tCons te tr) σ H (fun vs H2 => ∃ v ws, vs = v :: ws ∧ W v H2 ∧ R ws H2) := fun H1 e Q q =>
  h H1 e _ fun v H2 e2 w => r H2 (e.trans e2) _ fun ws H3 e3 k => q _ H3 (e2.trans e3) ⟨v, ws, rfl, hW v H2 H3 e3 w, k⟩
theorem q_lstP {ta : TA} {u : TS} {σ : L2.St} {H : Hp} {D : Ends} {i : Nat} {R : List V → Hp → Prop} (h : EvAP ta σ H R) (hl : ∀ vs H, R vs H → vs.length ≤ 100000) (k : ∀ vs p H2 H3, Ex H H2 → R vs H2 → Ex H2 H3 → H3 p = some (.lst vs) → u D (σ.set i (some (.ref p))) H3) : tSeq (tAsg (tLst ta) (gName i)) u D σ H :=
  h H (Ex.refl H) _ fun vs H2 e2 r => ⟨sz_of (hl vs H2 r), fun p np => k vs p H2 _ e2 r (Ex.new np) upd_same⟩
theorem q_catP {ta : TE} {tb : TA} {u : TS} {σ : L2.St} {H : Hp} {D : Ends} {i : Nat} {l : Addr} {xs : List V} {R : List V → Hp → Prop} (ha : Ev ta σ H (.ref l)) (hx : H l = some (.lst xs)) (h : EvAP tb σ H R) (hl : ∀ vs H, R vs H → xs.length + vs.length ≤ 100000)
    (k : ∀ vs p H2 H3, Ex H H2 → R vs H2 → Ex H2 H3 → H3 p = some (.lst (xs ++ vs)) → u D (σ.set i (some (.ref p))) H3) : tSeq (tAsg (tOp rCat ta (tLst tb)) (gName i)) u D σ H :=
  ha H (Ex.refl H) _ fun H1 e1 => h H1 e1 _ fun vs H2 e2 r => ⟨sz_of (by have := hl vs H2 r; omega), fun b nb => ⟨l, b, xs, vs, rfl, rfl, Ex.new nb _ _ ((e1.trans e2) _ _ hx), upd_same, sz_of (hl vs H2 r), fun p np => k vs p H2 _ (e1.trans e2) r ((Ex.new nb).trans (Ex.new np)) upd_same⟩⟩
theorem ev_opWL {ta tb : TE} {σ : L2.St} {H : Hp} {r : R2} {xs ys : List V} {z : V} (ha : EvW ta σ H (fun v H2 => ∃ p, v = .ref p ∧ H2 p = some (.lst xs))) (hb : EvL tb σ H ys) (hr : ∀ p q H1, H1 p = some (.lst xs) → H1 q = some (.lst ys) → RV r (.ref p) (.ref q) H1 z) : Ev (tOp r ta tb) σ H z := fun H1 e Q k =>
  ha H1 e _ fun v H2 e2 ⟨p, ev, hp⟩ => by
    subst ev
    exact hb H2 (e.trans e2) _ fun q H3 _ e3 hq => hr p q H3 (e3 _ _ hp) hq H3 (Ex.refl H3) Q fun H4 e4 => k H4 ((e2.trans e3).trans e4)
/-! truths compared -/
theorem dp_bls {K : PySem.W.Frag} {H : Hp} : ∀ bs : List Bool, DpAll K H (bs.map V.bl) (bs.map PyData.bool)
  | [] => .nil
  | b :: bs => .cons (.bl b) (dp_bls bs)
theorem lay_bls : ∀ bs : List Bool, PyData.canLayAll0 (bs.map PyData.bool) = true
  | [] => by simp only [List.map_nil, PyData.canLayAll0]
  | b :: bs => by simp only [List.map_cons, PyData.canLayAll0, PyData.canLay0, lay_bls bs, Bool.and_self]
theorem dep_bls : ∀ bs : List Bool, PyData.depthAll (bs.map PyData.bool) = 0
  | [] => by simp only [List.map_nil, PyData.depthAll]
  | b :: bs => by simp only [List.map_cons, PyData.depthAll, PyData.depth, dep_bls bs, Nat.max_self]
theorem eqv_bls : ∀ bs : List Bool, PyData.eqvAll (bs.map PyData.bool) (bs.map PyData.bool) = true
  | [] => by simp [PyData.eqvAll]
  | b :: bs => by
    simp only [List.map_cons, PyData.eqvAll, eqv_bls bs, Bool.and_true]
    cases b <;> simp [PyData.eqv]
theorem rv_neBls {K : PySem.W.Frag} {H : Hp} {a b : Addr} (bs : List Bool) (ha : H a = some (.lst (bs.map V.bl))) (hb : H b = some (.lst (bs.map V.bl))) : RV (rNeD K) (.ref a) (.ref b) H (.bl false) := by
  have sh : PySem.SeqAt.shaped (.list (bs.map PyData.bool)) = true := shaped_list (lay_bls bs) (by rw [dep_bls]; omega)
  have z := rv_neD (K := K) (x := .ref a) (y := .ref b) (H := H) (fun H1 e => .lst (sq_of (e _ _ ha)) (dp_bls bs)) (fun H1 e => .lst (sq_of (e _ _ hb)) (dp_bls bs)) sh sh
  have e1 : PyData.eqv (.list (bs.map PyData.bool)) (.list (bs.map PyData.bool)) = true := by simp only [PyData.eqv, eqv_bls]
  rw [e1] at z
  exact z
theorem rv_eqKS {K : PySem.W.Frag} {H : Hp} {a b st : Addr} {k x y : Int} (ha : H a = some (.tup [.int k, .ref st])) (hb : H b = some (.tup [.int k, .ref st])) (hs : H st = some (.tup [.int x, .int y])) : RV (rEqD K) (.ref a) (.ref b) H (.bl true) := by
  have d : ∀ {H1 : Hp}, Ex H H1 → DpAll K H1 [.int k, .ref st] [.int k, .tuple [.int x, .int y]] := fun e => .cons (.int k) (.cons (.tup (st_of (e _ _ hs)) (dp_ints [x, y])) .nil)
  have l2 := lay_ints [x, y]
  have d2 := dep_ints [x, y]
  have q2 := eqv_tints [x, y] [x, y]
  rw [decide_eq_true rfl] at q2
  simp only [List.map_cons, List.map_nil] at l2 d2 q2
  have sh : PySem.SeqAt.shaped (.tuple [.int k, .tuple [.int x, .int y]]) = true := shaped_tuple (by simp only [PyData.canLayAll0, PyData.canLay0, l2, Bool.and_self]) (by simp only [PyData.depthAll, PyData.depth, d2]; omega)
  have z := rv_eqD (K := K) (x := .ref a) (y := .ref b) (H := H) (fun H1 e => .tup (st_of (e _ _ ha)) (d e)) (fun H1 e => .tup (st_of (e _ _ hb)) (d e)) sh sh
  have e1 : PyData.eqv (.tuple [.int k, .tuple [.int x, .int y]]) (.tuple [.int k, .tuple [.int x, .int y]]) = true := by
    have q3 : PyData.eqv (.int k) (.int k) = true := by simp [PyData.eqv]
    have q4 : PyData.eqvAll [.int k, .tuple [.int x, .int y]] [.int k, .tuple [.int x, .int y]] = true := by
      simp only [PyData.eqvAll, q2, q3, Bool.and_self]
    simp only [PyData.eqv]
    exact q4
  rw [e1] at z
  exact z
theorem log_small {i : Int} (h0 : 0 ≤ i) (h1 : i < 4294967296) : i.natAbs.log2 < 1920 := by
  by_cases z : i.natAbs = 0
  · rw [z]
    decide
  · have h : i.natAbs < 2 ^ 32 := by
      have : (2 : Nat) ^ 32 = 4294967296 := by decide
      omega
    have := (Nat.log2_lt z).mpr h
    omega
def IsW (C : Addr) (v : V) (H : Hp) : Prop := ∃ a, v = .ref a ∧ IsEx H a C
theorem IsW.mono (C : Addr) : ∀ v H H', Ex H H' → IsW C v H → IsW C v H' := fun v H H' e ⟨a, h1, h2⟩ => ⟨a, h1, h2.mono e⟩
def FxW (C : Addr) (fs : List (Str × V)) (v : V) (H : Hp) : Prop := ∃ a d, v = .ref a ∧ H a = some (exo a C (some d)) ∧ H d = some (exd d fs)
theorem FxW.mono (C : Addr) (fs : List (Str × V)) : ∀ v H H', Ex H H' → FxW C fs v H → FxW C fs v H' := fun v H H' e ⟨a, d, h1, h2, h3⟩ => ⟨a, d, h1, e _ _ h2, e _ _ h3⟩
def spLaw (K : PySem.W.Frag) : Sp := fun vs H Q _ => ∃ (a : Addr) (ns : List Int), vs = [.ref a] ∧ SqL K H a (ns.map V.int) ∧ ns.length ≤ 63 ∧ ∀ H', Q (.bl true) H'
theorem rCell {K : PySem.W.Frag} {H : Hp} {a : Addr} {ns : List Int} {k : Int} (hS : SqL K H a (ns.map V.int)) (hl : ns.length ≤ 63) (hk : 0 ≤ k) : ∀ H1, Ex H H1 → RCell K [.ref a, .int k] H1 (.int (cellV ns k)) := fun H1 e => ⟨a, ns, k, rfl, ex_l e hS, hl, hk, rfl⟩
section
variable {P : Program} {w : World} {K : PySem.W.Frag} {mg : Str → Option Value} {base : Heap} {cG fN fB : Addr} {cs : Nat → Addr} {fdN fdB : FuncData}
theorem ok_law {f : Addr} {fd : FuncData} (T : Blt mg) (G : Kds K mg cG cs) (F : C8.Fun K "law" "law" s_law f fd) (c_Lcell : C8.Cal P w K mg base 1 "_law_cell" (spF (RCell K)) []) (c_Lkinds : C8.Cal P w K mg base 1 "_law_kinds" (spW (RKinds cs)) [])
    (R_NoBound : Rf K mg "NoBound" (cs 0)) (R_NoMoment : Rf K mg "NoMoment" (cs 1)) (R_NoCost : Rf K mg "NoCost" (cs 2)) (R_NoName : Rf K mg "NoName" (cs 3)) (R_NoPlace : Rf K mg "NoPlace" (cs 4)) (R_NoVisit : Rf K mg "NoVisit" (cs 5)) (R_Late : Rf K mg "Late" (cs 6)) (R_Full : Rf K mg "Full" (cs 7)) (R_BadRow : Rf K mg "BadRow" (cs 8))
    (X_Never : Xf K mg "Never" (cs 9) fN fdN ["self", "place"]) (X_Broken : Xf K mg "Broken" (cs 10) fB fdB ["self", "k", "stretch"]) (F_Never : FnOk P w K mg base C8.CX0 1 fN fdN ["self", "place"] (spNever (cs 9))) (F_Broken : FnOk P w K mg base C8.CX0 1 fB fdB ["self", "k", "stretch"] (spBroken K (cs 10)))
    (n9 : PySem.W.findIn K (.ref (cs 9)) "place" = some none) (n10 : PySem.W.findIn K (.ref (cs 10)) "k" = some none) (n11 : PySem.W.findIn K (.ref (cs 10)) "stretch" = some none) : FnOk P w K mg base C8.CX0 3 f fd ["_law_script"] (spLaw K) := by
  refine C8.fn0 F sc_law (fun vs H Q E h => ?_) (fun cdv A outer s H vs Q E hr h => ?_)
  · obtain ⟨a, ns, rfl, _⟩ := h
    rfl
  · obtain ⟨a, ns, rfl, hS, hl, q⟩ := h
    refine ⟨_, (pss_cons (ps_set (i := 1) sc_law.nd rfl (Or.inl rfl) (pe_ix ix_list (pe_lst (pa_cons pe_str (pa_cons pe_str (pa_cons pe_str (pa_cons pe_str pa_nil))))) (pe_op op_mod (C8.pe_c c_Lcell hr (by decide) rfl (pa_cons (pv 0) (pa_cons pe_int pa_nil))) pe_int) (fun _ _ => rfl)))
  (pss_cons (ps_set (i := 2) sc_law.nd rfl (Or.inl rfl) (pe_op op_mod (C8.pe_c c_Lcell hr (by decide) rfl (pa_cons (pv 0) (pa_cons pe_int pa_nil))) pe_int))
  (pss_cons (ps_set (i := 3) sc_law.nd rfl (Or.inl rfl) (pe_tup (pa_cons (pe_op op_mod (C8.pe_c c_Lcell hr (by decide) rfl (pa_cons (pv 0) (pa_cons pe_int pa_nil))) (pe_op op_pow pe_int pe_int)) (pa_cons (pe_op op_add (pe_op op_pow pe_int pe_int) (C8.pe_c c_Lcell hr (by decide) rfl (pa_cons (pv 0) (pa_cons pe_int pa_nil)))) pa_nil))))
  (pss_cons (ps_set (i := 4) sc_law.nd rfl (Or.inl rfl) (pe_lst (pa_cons (pe_exc1 PySem.F.excBase_ValueError R_NoBound.x R_NoBound.g R_NoBound.k rfl (pv 1)) (pa_cons (pe_exc1 PySem.F.excBase_ValueError R_NoMoment.x R_NoMoment.g R_NoMoment.k rfl (pv 1)) (pa_cons (pe_exc1 PySem.F.excBase_ValueError R_NoCost.x R_NoCost.g R_NoCost.k rfl (pv 1)) (pa_cons (pe_exc1 PySem.F.excBase_ValueError R_NoName.x R_NoName.g R_NoName.k rfl (pv 1)) (pa_cons (pe_exc1 PySem.F.excBase_ValueError R_NoPlace.x R_NoPlace.g R_NoPlace.k rfl (pv 1)) (pa_cons (pe_exc1 PySem.F.excBase_ValueError R_NoVisit.x R_NoVisit.g R_NoVisit.k rfl (pv 1)) (pa_cons (pe_exc1 PySem.F.excBase_ValueError R_Late.x R_Late.g R_Late.k rfl (pv 1)) pa_nil)))))))))
  (pss_cons (ps_set (i := 4) sc_law.nd rfl (Or.inl rfl) (pe_op op_cat (pv 4) (pe_lst (pa_cons (pe_exc1 PySem.F.excBase_ValueError R_Full.x R_Full.g R_Full.k rfl (pv 1)) (pa_cons (pe_exc1 PySem.F.excBase_ValueError R_BadRow.x R_BadRow.g R_BadRow.k rfl (pv 1)) (pa_cons (pe_mkX X_Never.ox X_Never.ii X_Never.it F_Never hr (by decide) X_Never.bi rfl X_Never.g (pa_cons (pv 2) pa_nil)) (pa_cons (pe_mkX X_Broken.ox X_Broken.ii X_Broken.it F_Broken hr (by decide) X_Broken.bi rfl X_Broken.g (pa_cons (pe_op op_mod (pv 2) pe_int) (pa_cons (pv 3) pa_nil))) pa_nil)))))))
  (pss_cons (ps_for PassesOwn.never rfl (pi_range1 rfl T.b_range (pa_cons pe_int pa_nil)) (pg_name (i := 5) sc_law.nd rfl (Or.inr rfl))
    (pss_one (ps_if (pt_cmpR (op_neD hr.units) (C8.pe_c c_Lkinds hr (by decide) rfl (pa_cons (pe_ix ix_list (pv 4) (pv 5) (fun _ _ => rfl)) pa_nil)) (pe_lc (own := [("_law_j", 6)]) (g := gName 6) rfl sc_law.nd (pi_range1 rfl T.b_range (pa_cons pe_int pa_nil)) (blkOk_by (own := [("_law_j", 6)]) (N := ["_law_script", "_law_text", "_law_place", "_law_stretch", "_law_made", "_law_k", "_law_j"]) (sc := C8.fnScope s_law) (by decide +kernel)) (fun _ _ _ _ _ => pg_name (i := 6) sc_law.nd rfl (Or.inl rfl)) (fun _ _ _ _ _ => pts_nil) (fun _ _ _ _ _ => (pe_cmpR op_eq (pv 6) (pv 5) (nomark _)))) (nomark _))
      (pss_one (ps_ret pe_bl))
      pss_nil)))
  (pss_one (ps_ret (pe_and (pe_cmpR op_eq (pe_xv (pe_ix ix_list (pv 4) pe_int (fun _ _ => rfl))) (pv 2) (nomark _)) (pe_one (pe_cmpR (op_eqD hr.units) (pe_tup (pa_cons (pe_xv (pe_ix ix_list (pv 4) pe_int (fun _ _ => rfl))) (pa_cons (pe_xv (pe_ix ix_list (pv 4) pe_int (fun _ _ => rfl))) pa_nil))) (pe_tup (pa_cons (pe_op op_mod (pv 2) pe_int) (pa_cons (pv 3) pa_nil))) (nomark _)))))))))))), ?_⟩
    have cellAt : ∀ {σ : L2.St} {H : Hp} {te : TE} {i : Int}, σ[0]? = some (some (.ref a)) → SqL K H a (ns.map V.int) → Ev te σ H (.int i) → 0 ≤ i → Ev (tCall (spF (RCell K)) [] C8.E0 (tCons (tVar 0) (tCons te tNil))) σ H (.int (cellV ns i)) := fun h0 hS he hi => ev_callF (ea_cons (ev_var h0) (ea_cons he ea_nil)) (rCell hS hl hi)
    have k1 := cellV_nn ns 1
    have k2 := cellV_nn ns 2
    have k3 := cellV_nn ns 3
    have b3 := cellV_lt ns 3
    -- the text
    obtain ⟨j, ej, hj⟩ : ∃ j : Nat, cellV ns 0 % 4 = (j : Int) ∧ j < 4 := ⟨(cellV ns 0 % 4).toNat, by omega, by omega⟩
    obtain ⟨tx, htx⟩ : ∃ tx : V, atI [V.str "", .str "a", .str "no row", .str "7"] (cellV ns 0 % 4) = some tx := by
      rw [ej]
      have z : ∃ tx, ([V.str "", .str "a", .str "no row", .str "7"] : List V)[j]? = some tx := ⟨_, List.getElem?_eq_getElem (show j < 4 from hj)⟩
      obtain ⟨tx, z⟩ := z
      exact ⟨tx, atI_nat z⟩
    refine Nx.go (nx_asg (v := tx) (ev_ixN (i := cellV ns 0 % 4) (ea_cons ev_c (ea_cons ev_c (ea_cons ev_c (ea_cons ev_c ea_nil)))) (ev_op (cellAt rfl hS ev_c (by decide)) ev_c (rv_I (by decide))) (by simp only [List.length_cons, List.length_nil]; omega) htx)) fun H1 e1 => ?_
    replace hS := ex_l e1 hS
    refine Nx.go (nx_asg (v := .int (cellV ns 1 % 200)) (ev_op (cellAt rfl hS ev_c (by decide)) ev_c (rv_I (by decide)))) fun H2 e2 => ?_
    replace hS := ex_l e2 hS
    refine q_asgU (D := { nx := _, rt := Q }) (xs := [.int (cellV ns 2 % 1000000000), .int (1000000000 + cellV ns 3)]) (eu_tup (ea_cons (ev_op (cellAt rfl hS ev_c (by decide)) (ev_op ev_c ev_c (rv_I ⟨by decide, by decide, by decide⟩)) (rv_I (by decide))) (ea_cons (ev_op (ev_op ev_c ev_c (rv_I ⟨by decide, by decide, by decide⟩)) (cellAt rfl hS ev_c (by decide)) rv_I0) ea_nil)) (by simp only [List.length_cons, List.length_nil]; omega)) fun st H3 _ e3 hst => ?_
    have p0 : 0 ≤ cellV ns 1 % 200 ∧ cellV ns 1 % 200 < 200 := by omega
    have x0 : 0 ≤ cellV ns 2 % 1000000000 ∧ cellV ns 2 % 1000000000 < 1000000000 := by omega
    have y0 : 0 ≤ 1000000000 + cellV ns 3 ∧ 1000000000 + cellV ns 3 < 4294967296 := by omega
    clear hS
    generalize cellV ns 1 % 200 = pl at p0 ⊢
    generalize cellV ns 2 % 1000000000 = sx at x0 hst
    generalize 1000000000 + cellV ns 3 = sy at y0 hst
    -- the refusals, made
    have plain : ∀ {C : Addr} {H : Hp} {o4 o5 o6 : Option V}, EvW (fun σ H Q => (tVar 1) σ H fun _ H1 => ∀ a, H1 a = none → Q (.ref a) (upd H1 a (ExO (.ref C) a))) [some (.ref a), some tx, some (.int pl), some (.ref st), o4, o5, o6] H (IsW C) := fun {C H o4 o5 o6} => evw_exc1 (ev_var rfl)
    refine q_lstP (D := { nx := _, rt := Q }) (eap_cons plain (IsW.mono _) (eap_cons plain (IsW.mono _) (eap_cons plain (IsW.mono _) (eap_cons plain (IsW.mono _) (eap_cons plain (IsW.mono _) (eap_cons plain (IsW.mono _) (eap_cons plain (IsW.mono _) eap_nil))))))) (fun vs H r => ?_) fun vs l1 H4 H5 e4 r e5 hl1 => ?_
    · obtain ⟨_, _, rfl, _, _, _, rfl, _, _, _, rfl, _, _, _, rfl, _, _, _, rfl, _, _, _, rfl, _, _, _, rfl, _, rfl⟩ := r
      simp only [List.length_cons, List.length_nil]
      omega
    obtain ⟨_, _, rfl, ⟨a0, rfl, z0⟩, _, _, rfl, ⟨a1, rfl, z1⟩, _, _, rfl, ⟨a2, rfl, z2⟩, _, _, rfl, ⟨a3, rfl, z3⟩, _, _, rfl, ⟨a4, rfl, z4⟩, _, _, rfl, ⟨a5, rfl, z5⟩, _, _, rfl, ⟨a6, rfl, z6⟩, rfl⟩ := r
    have hst5 := ((e4.trans e5) _ _ hst : H5 st = _)
    refine q_catP (D := { nx := _, rt := Q }) (ev_var rfl) hl1 (eap_cons plain (IsW.mono _) (eap_cons plain (IsW.mono _) (eap_cons (W := FxW (cs 9) (fNever pl)) (evw_mkX (Dm := fun _ _ => True) (mk := fun _ => fNever pl) (ea_cons (ev_var rfl) ea_nil) (by simp only [List.length_cons, List.length_nil]; omega) _ fun H6 b Q2 e6 nb k => ?_) (FxW.mono _ _) (eap_cons (W := FxW (cs 10) (fBroken (pl % 4) st)) (evw_mkX (Dm := fun _ _ => True) (mk := fun _ => fBroken (pl % 4) st) (ea_cons (ev_op (ev_var rfl) ev_c (rv_I (by decide))) (ea_cons (ev_var rfl) ea_nil)) (by simp only [List.length_cons, List.length_nil]; omega) _ fun H6 b Q2 e6 nb k => ?_) (FxW.mono _ _) eap_nil)))) (fun vs H r => ?_) fun vs l2 H6 H7 e6 r e7 hl2 => ?_
    · exact ⟨b, pl, rfl, log_small p0.1 (by omega), upd_same, fun H7 d k1 k2 k3 => k H7 d k1 k2 k3⟩
    · exact ⟨b, st, pl % 4, sx, sy, rfl, log_small (by omega) (by omega), st_of (by rw [upd_ne (ne_of_none (e6 _ _ hst5) nb)]; exact e6 _ _ hst5), log_small x0.1 (by omega), log_small y0.1 y0.2, upd_same, fun H7 d k1 k2 k3 => k H7 d k1 k2 k3⟩
    · obtain ⟨_, _, rfl, _, _, _, rfl, _, _, _, rfl, _, _, _, rfl, _, rfl⟩ := r
      simp only [List.length_cons, List.length_nil]
      omega
    obtain ⟨_, _, rfl, ⟨a7, rfl, z7⟩, _, _, rfl, ⟨a8, rfl, z8⟩, _, _, rfl, ⟨a9, d9, rfl, z9, y9⟩, _, _, rfl, ⟨a10, d10, rfl, z10, y10⟩, rfl⟩ := r
    have e57 := e6.trans e7
    have e47 := e5.trans e57
    have hst7 := e57 _ _ hst5
    have z9' := e7 _ _ z9
    have y9' := e7 _ _ y9
    have z10' := e7 _ _ z10
    have y10' := e7 _ _ y10
    have made : ∀ i, i < 11 → ∃ b, ([V.ref a0, .ref a1, .ref a2, .ref a3, .ref a4, .ref a5, .ref a6, .ref a7, .ref a8, .ref a9, .ref a10] : List V)[i]? = some (.ref b) ∧ IsEx H7 b (cs i) := fun i hi => by
      match i, hi with
      | 0, _ => exact ⟨a0, rfl, z0.mono e47⟩
      | 1, _ => exact ⟨a1, rfl, z1.mono e47⟩
      | 2, _ => exact ⟨a2, rfl, z2.mono e47⟩
      | 3, _ => exact ⟨a3, rfl, z3.mono e47⟩
      | 4, _ => exact ⟨a4, rfl, z4.mono e47⟩
      | 5, _ => exact ⟨a5, rfl, z5.mono e47⟩
      | 6, _ => exact ⟨a6, rfl, z6.mono e47⟩
      | 7, _ => exact ⟨a7, rfl, z7.mono e7⟩
      | 8, _ => exact ⟨a8, rfl, z8.mono e7⟩
      | 9, _ => exact ⟨a9, rfl, .inr ⟨d9, _, z9', y9'⟩⟩
      | 10, _ => exact ⟨a10, rfl, .inr ⟨d10, _, z10', y10'⟩⟩
      | n + 11, h => omega
    have hl7 : H7 l2 = some (.lst [V.ref a0, .ref a1, .ref a2, .ref a3, .ref a4, .ref a5, .ref a6, .ref a7, .ref a8, .ref a9, .ref a10]) := hl2
    refine q_forR1 (n := 11) (ea_cons ev_c ea_nil) (by omega) (fun i σ' H' => ∃ o5 o6, σ' = [some (.ref a), some tx, some (.int pl), some (.ref st), some (.ref l2), o5, o6] ∧ Ex H7 H') (fun H8 e8 => ⟨_, _, rfl, e8⟩) (fun i σ H8 hi ⟨o5, o6, hσ, e8⟩ => ?_) fun σ H8 ⟨o5, o6, hσ, e8⟩ => ?_
    · subst hσ
      have hi2 : i < 11 := by omega
      obtain ⟨b, hb, xb⟩ := made i hi2
      refine s_when (D := { nx := _, rt := Q, bk := _, ct := _ }) (b := false) (et_test (ev_opWL (xs := kindsL i) (ys := kindsL i) (evw_callW (ea_cons (ev_ixL (ev_var rfl) (ev_var rfl) (sq_of (e8 _ _ hl7)) (atI_nat hb)) ea_nil) fun H9 e9 => ⟨b, i, hi2, rfl, (xb.mono e8).mono e9, rfl⟩) ?_ fun p q H9 h1 h2 => rv_neBls ((List.range 11).map fun j => decide (i = j)) h1 h2)) (fun z => by cases z) fun _ H9 e9 => ⟨_, _, rfl, e8.trans e9⟩
      have z := el_lcR1 (σ := [some (.ref a), some tx, some (.int pl), some (.ref st), some (.ref l2), some (.int (i : Int)), o6]) (H := H8) (ta := tCons (tC (.int 11)) tNil) (t := tYes) (te := tOp rEq (tVar 6) (tVar 5)) (j := 6) (vs := [6]) (n := 11) (fun _ => true) (fun k => V.bl (decide (V.int (k : Int) = V.int (i : Int)))) (ea_cons ev_c ea_nil) (by omega) (fun x => rfl) (fun k H9 _ _ H10 e Q q => q H10 (Ex.refl H10)) (fun k H9 _ _ _ => ev_op (ev_var rfl) (ev_var rfl) (rv_eq rfl))
      rw [given_all] at z
      have ez : kindsL i = (List.range (11 : Int).toNat).map (fun k : Nat => V.bl (decide (V.int (k : Int) = V.int (i : Int)))) := by
        unfold kindsL
        refine List.map_congr_left fun k _ => congrArg V.bl (decide_eq_decide.mpr ⟨fun h => by rw [h], fun h => ?_⟩)
        injection h with h
        omega
      rw [ez]
      exact z
    · subst hσ
      have at9 : ∀ {σ : L2.St}, σ[4]? = some (some (.ref l2)) → Ev (tOp (rIxL K) (tVar 4) (tC (.int 9))) σ H8 (.ref a9) := fun h => ev_ixL (ev_var h) ev_c (sq_of (e8 _ _ hl7)) rfl
      have at10 : ∀ {σ : L2.St}, σ[4]? = some (some (.ref l2)) → Ev (tOp (rIxL K) (tVar 4) (tC (.int 10))) σ H8 (.ref a10) := fun h => ev_ixL (ev_var h) ev_c (sq_of (e8 _ _ hl7)) rfl
      refine s_ret (v := .bl true) (ev_is (ev_andV (a := true) (b := true) (ev_is (ev_op (ev_xv (at9 rfl) (G.ex 9 (by decide)) n9 (e8 _ _ z9') (e8 _ _ y9') rfl) (ev_var rfl) (rv_eq rfl)) (by rw [decide_eq_true rfl])) fun _ => ev_opUU (xs := [.int (pl % 4), .ref st]) (ys := [.int (pl % 4), .ref st]) (eu_tup (ea_cons (ev_xv (at10 rfl) (G.ex 10 (by decide)) n10 (e8 _ _ z10') (e8 _ _ y10') rfl) (ea_cons (ev_xv (at10 rfl) (G.ex 10 (by decide)) n11 (e8 _ _ z10') (e8 _ _ y10') rfl) ea_nil)) (by simp only [List.length_cons, List.length_nil]; omega)) (eu_tup (ea_cons (ev_op (ev_var rfl) ev_c (rv_I (by decide))) (ea_cons (ev_var rfl) ea_nil)) (by simp only [List.length_cons, List.length_nil]; omega)) fun p q H9 hp hq e9 => rv_eqKS hp hq ((e8.trans e9) _ _ hst7)) rfl) fun H9 _ => q H9
end
theorem kit_sub {K : PySem.W.Frag} {C D : Addr} {b : Bool} (hd : PySem.W.hasDictIn K D = true) (ht : PySem.W.typeIn K (.ref D) = some (.type "type")) (hs : PySem.W.subIn K (.ref C) (.ref D) = some b) (hne : b = false → C ≠ D) : PySem.W.kitOne K (.ref C) (.ref D) = some b := by
  obtain ⟨cd, hc, _⟩ := PySem.W.any_some hd
  have e2 : ((PySem.W.clsIn K D).isSome && PySem.W.typeIn K (.ref D) == some (.type "type")) = true := by rw [hc, ht] <;> rfl
  show (if (Value.ref C == Value.ref D) = true then some true else PySem.W.kitCls K (.ref C) (.ref D)) = some b
  by_cases h : (Value.ref C == Value.ref D) = true
  · rw [if_pos h]
    cases b with
    | true => rfl
    | false =>
      have e := beq_iff_eq.mp h
      injection e with e
      exact absurd e (hne rfl)
  · rw [if_neg h]
    show (if ((PySem.W.clsIn K D).isSome && PySem.W.typeIn K (.ref D) == some (.type "type")) = true then PySem.W.subIn K (.ref C) (.ref D) else none) = some b
    rw [if_pos e2]
    exact hs
theorem kit_yes {K : PySem.W.Frag} {C D : Addr} (hd : PySem.W.hasDictIn K D = true) (ht : PySem.W.typeIn K (.ref D) = some (.type "type")) (hs : PySem.W.subIn K (.ref C) (.ref D) = some true) : PySem.W.kitOne K (.ref C) (.ref D) = some true := kit_sub hd ht hs fun z => by cases z
theorem kit_no {K : PySem.W.Frag} {C D : Addr} (hd : PySem.W.hasDictIn K D = true) (ht : PySem.W.typeIn K (.ref D) = some (.type "type")) (hs : PySem.W.subIn K (.ref C) (.ref D) = some false) (me : PySem.W.subIn K (.ref C) (.ref C) = some true) : PySem.W.kitOne K (.ref C) (.ref D) = some false := kit_sub hd ht hs fun _ e => by
  subst e
  rw [me] at hs
  cases hs
theorem kit_ve {K : PySem.W.Frag} {C : Addr} (hs : PySem.W.subIn K (.ref C) (.type "ValueError") = some true) : PySem.W.kitOne K (.ref C) (.type "ValueError") = some true := by
  show (if (Value.ref C == Value.type "ValueError") = true then some true else if PySem.W.kitMeta "ValueError" = true then PySem.W.subIn K (.ref C) (.type "ValueError") else none) = some true
  have m : PySem.W.kitMeta "ValueError" = true := by decide +kernel
  by_cases h : (Value.ref C == Value.type "ValueError") = true
  · rw [if_pos h]
  · rw [if_neg h, if_pos m]
    exact hs

section
theorem all_mk {l : PySem.W.OpenLaw} {w : World} {K : PySem.W.Frag} {h : Heap} {mg : Str → Option Value} {fa : Addr} (X : K.In h) (G : h.Ns mainGlobals mg) (hfa : mg "law" = some (.ref fa))
    {cG Cx0 Cx1 Cx2 Cx3 Cx4 Cx5 Cx6 Cx7 Cx8 Cx9 Cx10 : Addr}
    {nm_9 : Str}
    {qn_9 : Str}
    {Nn_9 : Addr}
    {bs_9 : List Value}
    {bm_9 : List Value}
    {sn_9 : List Str}
    {sub_9 : List Value}
    {ab_9 : Bool}
    {col_9 : Option Bool}
    {dd_9 : Option Addr}
    {k0_9 : Option Value}
    {k1_9 : Option Value}
    {k2_9 : Option Value}
    {k3_9 : Option Value}
    {k5_9 : Option Value}
    {f_9 : Addr}
    {cc_9 : Addr}
    {cda_9 : Addr}
    {oc_9 : Value}
    {kV_9 : Value}
    {dc_9 : Value}
    {pm_9 : Value}
    {ct_9 : Value}
    {od_9 : Option Addr}
    {an_9 : Option Addr}
    {sl_9 : Array (Option Value)}
    {cl_9 : Value}
    {cld_9 : Option Addr}
    {csl_9 : Array (Option Value)}
    {ccl_9 : Value}
    {cdd_9 : Option Addr}
    {vs_9 : Array Value}
    {ccs_9 : Array (Option Value)}
    {file_9 : Str}
    {tf_9 : Tok}
    {nm_10 : Str}
    {qn_10 : Str}
    {Nn_10 : Addr}
    {bs_10 : List Value}
    {bm_10 : List Value}
    {sn_10 : List Str}
    {sub_10 : List Value}
    {ab_10 : Bool}
    {col_10 : Option Bool}
    {dd_10 : Option Addr}
    {k0_10 : Option Value}
    {k1_10 : Option Value}
    {k2_10 : Option Value}
    {k3_10 : Option Value}
    {k5_10 : Option Value}
    {f_10 : Addr}
    {cc_10 : Addr}
    {cda_10 : Addr}
    {oc_10 : Value}
    {kV_10 : Value}
    {dc_10 : Value}
    {pm_10 : Value}
    {ct_10 : Value}
    {od_10 : Option Addr}
    {an_10 : Option Addr}
    {sl_10 : Array (Option Value)}
    {cl_10 : Value}
    {cld_10 : Option Addr}
    {csl_10 : Array (Option Value)}
    {ccl_10 : Value}
    {cdd_10 : Option Addr}
    {vs_10 : Array Value}
    {ccs_10 : Array (Option Value)}
    {file_10 : Str}
    {tf_10 : Tok}
    {od1 an1 : Option Addr} {sl1 : Array (Option Value)} {oc1 kV1 dc1 pm1 cd1 ct1 : Value} {f1 : Addr}
    {od2 an2 : Option Addr} {sl2 : Array (Option Value)} {oc2 kV2 dc2 pm2 cd2 ct2 : Value} {f2 : Addr}
    {od3 an3 : Option Addr} {sl3 : Array (Option Value)} {oc3 kV3 dc3 pm3 cd3 ct3 : Value} {f3 : Addr}
    (z_len : PySem.W.nsIn K mainGlobals "len" = some none)
    (z_range : PySem.W.nsIn K mainGlobals "range" = some none)
    (z_isinstance : PySem.W.nsIn K mainGlobals "isinstance" = some none)
    (z_ValueError : PySem.W.nsIn K mainGlobals "ValueError" = some none)
    (z_super : PySem.W.nsIn K mainGlobals "super" = some none)
    (aG : PySem.W.nsIn K mainGlobals "GateError" = some (some (.ref cG)))
    (dG : PySem.W.hasDictIn K cG = true)
    (tG : PySem.W.typeIn K (.ref cG) = some (.type "type"))
    (hn : PySem.W.specialIn K (.builtin "object.__class__") "__get__" = some (some (.builtin "getset_descriptor.__get__")))
    (ht : PySem.W.takesIn K (.builtin "object.__class__") = some true)
    (opq : PySem.W.nsIn K cStatics "thirdparty.any" = some none)
    (tops : (l.prog.main.scope.names.lookup ("super" : Str)).isSome = false)
    (a_0 : PySem.W.nsIn K mainGlobals "NoBound" = some (some (.ref Cx0)))
    (a_1 : PySem.W.nsIn K mainGlobals "NoMoment" = some (some (.ref Cx1)))
    (a_2 : PySem.W.nsIn K mainGlobals "NoCost" = some (some (.ref Cx2)))
    (a_3 : PySem.W.nsIn K mainGlobals "NoName" = some (some (.ref Cx3)))
    (a_4 : PySem.W.nsIn K mainGlobals "NoPlace" = some (some (.ref Cx4)))
    (a_5 : PySem.W.nsIn K mainGlobals "NoVisit" = some (some (.ref Cx5)))
    (a_6 : PySem.W.nsIn K mainGlobals "Late" = some (some (.ref Cx6)))
    (a_7 : PySem.W.nsIn K mainGlobals "Full" = some (some (.ref Cx7)))
    (a_8 : PySem.W.nsIn K mainGlobals "BadRow" = some (some (.ref Cx8)))
    (a_9 : PySem.W.nsIn K mainGlobals "Never" = some (some (.ref Cx9)))
    (a_10 : PySem.W.nsIn K mainGlobals "Broken" = some (some (.ref Cx10)))
    (kp_0 : PySem.W.keepIn K (.ref Cx0) = true)
    (hg_0 : PySem.W.findIn K (.ref Cx0) "__getattribute__" = some (some (.builtin "BaseException.__getattribute__")))
    (hk_0 : PySem.W.findIn K (.ref Cx0) "__getattr__" = some none)
    (hs_0 : PySem.W.subIn K (.ref Cx0) (.type "BaseException") = some true)
    (hd_0 : PySem.W.hasDictIn K Cx0 = true)
    (ha_0 : PySem.W.findIn K (.ref Cx0) "__class__" = some (some (.builtin "object.__class__")))
    (hm_0 : PySem.W.mroIn K Cx0 (.type "object") = some true)
    (sg_0 : PySem.W.subIn K (.ref Cx0) (.ref cG) = some true)
    (sv_0 : PySem.W.subIn K (.ref Cx0) (.type "ValueError") = some true)
    (ty_0 : PySem.W.typeIn K (.ref Cx0) = some (.type "type"))
    (kp_1 : PySem.W.keepIn K (.ref Cx1) = true)
    (hg_1 : PySem.W.findIn K (.ref Cx1) "__getattribute__" = some (some (.builtin "BaseException.__getattribute__")))
    (hk_1 : PySem.W.findIn K (.ref Cx1) "__getattr__" = some none)
    (hs_1 : PySem.W.subIn K (.ref Cx1) (.type "BaseException") = some true)
    (hd_1 : PySem.W.hasDictIn K Cx1 = true)
    (ha_1 : PySem.W.findIn K (.ref Cx1) "__class__" = some (some (.builtin "object.__class__")))
    (hm_1 : PySem.W.mroIn K Cx1 (.type "object") = some true)
    (sg_1 : PySem.W.subIn K (.ref Cx1) (.ref cG) = some true)
    (sv_1 : PySem.W.subIn K (.ref Cx1) (.type "ValueError") = some true)
    (ty_1 : PySem.W.typeIn K (.ref Cx1) = some (.type "type"))
    (kp_2 : PySem.W.keepIn K (.ref Cx2) = true)
    (hg_2 : PySem.W.findIn K (.ref Cx2) "__getattribute__" = some (some (.builtin "BaseException.__getattribute__")))
    (hk_2 : PySem.W.findIn K (.ref Cx2) "__getattr__" = some none)
    (hs_2 : PySem.W.subIn K (.ref Cx2) (.type "BaseException") = some true)
    (hd_2 : PySem.W.hasDictIn K Cx2 = true)
    (ha_2 : PySem.W.findIn K (.ref Cx2) "__class__" = some (some (.builtin "object.__class__")))
    (hm_2 : PySem.W.mroIn K Cx2 (.type "object") = some true)
    (sg_2 : PySem.W.subIn K (.ref Cx2) (.ref cG) = some true)
    (sv_2 : PySem.W.subIn K (.ref Cx2) (.type "ValueError") = some true)
    (ty_2 : PySem.W.typeIn K (.ref Cx2) = some (.type "type"))
    (kp_3 : PySem.W.keepIn K (.ref Cx3) = true)
    (hg_3 : PySem.W.findIn K (.ref Cx3) "__getattribute__" = some (some (.builtin "BaseException.__getattribute__")))
    (hk_3 : PySem.W.findIn K (.ref Cx3) "__getattr__" = some none)
    (hs_3 : PySem.W.subIn K (.ref Cx3) (.type "BaseException") = some true)
    (hd_3 : PySem.W.hasDictIn K Cx3 = true)
    (ha_3 : PySem.W.findIn K (.ref Cx3) "__class__" = some (some (.builtin "object.__class__")))
    (hm_3 : PySem.W.mroIn K Cx3 (.type "object") = some true)
    (sg_3 : PySem.W.subIn K (.ref Cx3) (.ref cG) = some true)
    (sv_3 : PySem.W.subIn K (.ref Cx3) (.type "ValueError") = some true)
    (ty_3 : PySem.W.typeIn K (.ref Cx3) = some (.type "type"))
    (kp_4 : PySem.W.keepIn K (.ref Cx4) = true)
    (hg_4 : PySem.W.findIn K (.ref Cx4) "__getattribute__" = some (some (.builtin "BaseException.__getattribute__")))
    (hk_4 : PySem.W.findIn K (.ref Cx4) "__getattr__" = some none)
    (hs_4 : PySem.W.subIn K (.ref Cx4) (.type "BaseException") = some true)
    (hd_4 : PySem.W.hasDictIn K Cx4 = true)
    (ha_4 : PySem.W.findIn K (.ref Cx4) "__class__" = some (some (.builtin "object.__class__")))
    (hm_4 : PySem.W.mroIn K Cx4 (.type "object") = some true)
    (sg_4 : PySem.W.subIn K (.ref Cx4) (.ref cG) = some true)
    (sv_4 : PySem.W.subIn K (.ref Cx4) (.type "ValueError") = some true)
    (ty_4 : PySem.W.typeIn K (.ref Cx4) = some (.type "type"))
    (kp_5 : PySem.W.keepIn K (.ref Cx5) = true)
    (hg_5 : PySem.W.findIn K (.ref Cx5) "__getattribute__" = some (some (.builtin "BaseException.__getattribute__")))
    (hk_5 : PySem.W.findIn K (.ref Cx5) "__getattr__" = some none)
    (hs_5 : PySem.W.subIn K (.ref Cx5) (.type "BaseException") = some true)
    (hd_5 : PySem.W.hasDictIn K Cx5 = true)
    (ha_5 : PySem.W.findIn K (.ref Cx5) "__class__" = some (some (.builtin "object.__class__")))
    (hm_5 : PySem.W.mroIn K Cx5 (.type "object") = some true)
    (sg_5 : PySem.W.subIn K (.ref Cx5) (.ref cG) = some true)
    (sv_5 : PySem.W.subIn K (.ref Cx5) (.type "ValueError") = some true)
    (ty_5 : PySem.W.typeIn K (.ref Cx5) = some (.type "type"))
    (kp_6 : PySem.W.keepIn K (.ref Cx6) = true)
    (hg_6 : PySem.W.findIn K (.ref Cx6) "__getattribute__" = some (some (.builtin "BaseException.__getattribute__")))
    (hk_6 : PySem.W.findIn K (.ref Cx6) "__getattr__" = some none)
    (hs_6 : PySem.W.subIn K (.ref Cx6) (.type "BaseException") = some true)
    (hd_6 : PySem.W.hasDictIn K Cx6 = true)
    (ha_6 : PySem.W.findIn K (.ref Cx6) "__class__" = some (some (.builtin "object.__class__")))
    (hm_6 : PySem.W.mroIn K Cx6 (.type "object") = some true)
    (sg_6 : PySem.W.subIn K (.ref Cx6) (.ref cG) = some true)
    (sv_6 : PySem.W.subIn K (.ref Cx6) (.type "ValueError") = some true)
    (ty_6 : PySem.W.typeIn K (.ref Cx6) = some (.type "type"))
    (kp_7 : PySem.W.keepIn K (.ref Cx7) = true)
    (hg_7 : PySem.W.findIn K (.ref Cx7) "__getattribute__" = some (some (.builtin "BaseException.__getattribute__")))
    (hk_7 : PySem.W.findIn K (.ref Cx7) "__getattr__" = some none)
    (hs_7 : PySem.W.subIn K (.ref Cx7) (.type "BaseException") = some true)
    (hd_7 : PySem.W.hasDictIn K Cx7 = true)
    (ha_7 : PySem.W.findIn K (.ref Cx7) "__class__" = some (some (.builtin "object.__class__")))
    (hm_7 : PySem.W.mroIn K Cx7 (.type "object") = some true)
    (sg_7 : PySem.W.subIn K (.ref Cx7) (.ref cG) = some true)
    (sv_7 : PySem.W.subIn K (.ref Cx7) (.type "ValueError") = some true)
    (ty_7 : PySem.W.typeIn K (.ref Cx7) = some (.type "type"))
    (kp_8 : PySem.W.keepIn K (.ref Cx8) = true)
    (hg_8 : PySem.W.findIn K (.ref Cx8) "__getattribute__" = some (some (.builtin "BaseException.__getattribute__")))
    (hk_8 : PySem.W.findIn K (.ref Cx8) "__getattr__" = some none)
    (hs_8 : PySem.W.subIn K (.ref Cx8) (.type "BaseException") = some true)
    (hd_8 : PySem.W.hasDictIn K Cx8 = true)
    (ha_8 : PySem.W.findIn K (.ref Cx8) "__class__" = some (some (.builtin "object.__class__")))
    (hm_8 : PySem.W.mroIn K Cx8 (.type "object") = some true)
    (sg_8 : PySem.W.subIn K (.ref Cx8) (.ref cG) = some true)
    (sv_8 : PySem.W.subIn K (.ref Cx8) (.type "ValueError") = some true)
    (ty_8 : PySem.W.typeIn K (.ref Cx8) = some (.type "type"))
    (kp_9 : PySem.W.keepIn K (.ref Cx9) = true)
    (hg_9 : PySem.W.findIn K (.ref Cx9) "__getattribute__" = some (some (.builtin "BaseException.__getattribute__")))
    (hk_9 : PySem.W.findIn K (.ref Cx9) "__getattr__" = some none)
    (hs_9 : PySem.W.subIn K (.ref Cx9) (.type "BaseException") = some true)
    (hd_9 : PySem.W.hasDictIn K Cx9 = true)
    (ha_9 : PySem.W.findIn K (.ref Cx9) "__class__" = some (some (.builtin "object.__class__")))
    (hm_9 : PySem.W.mroIn K Cx9 (.type "object") = some true)
    (sg_9 : PySem.W.subIn K (.ref Cx9) (.ref cG) = some true)
    (sv_9 : PySem.W.subIn K (.ref Cx9) (.type "ValueError") = some true)
    (ty_9 : PySem.W.typeIn K (.ref Cx9) = some (.type "type"))
    (kp_10 : PySem.W.keepIn K (.ref Cx10) = true)
    (hg_10 : PySem.W.findIn K (.ref Cx10) "__getattribute__" = some (some (.builtin "BaseException.__getattribute__")))
    (hk_10 : PySem.W.findIn K (.ref Cx10) "__getattr__" = some none)
    (hs_10 : PySem.W.subIn K (.ref Cx10) (.type "BaseException") = some true)
    (hd_10 : PySem.W.hasDictIn K Cx10 = true)
    (ha_10 : PySem.W.findIn K (.ref Cx10) "__class__" = some (some (.builtin "object.__class__")))
    (hm_10 : PySem.W.mroIn K Cx10 (.type "object") = some true)
    (sg_10 : PySem.W.subIn K (.ref Cx10) (.ref cG) = some true)
    (sv_10 : PySem.W.subIn K (.ref Cx10) (.type "ValueError") = some true)
    (ty_10 : PySem.W.typeIn K (.ref Cx10) = some (.type "type"))
    (x_0 : PySem.W.excIn K Cx0 [.type "ValueError", .type "Exception", .type "BaseException", .type "object"] "ValueError.__new__" = true)
    (x_1 : PySem.W.excIn K Cx1 [.type "ValueError", .type "Exception", .type "BaseException", .type "object"] "ValueError.__new__" = true)
    (x_2 : PySem.W.excIn K Cx2 [.type "ValueError", .type "Exception", .type "BaseException", .type "object"] "ValueError.__new__" = true)
    (x_3 : PySem.W.excIn K Cx3 [.type "ValueError", .type "Exception", .type "BaseException", .type "object"] "ValueError.__new__" = true)
    (x_4 : PySem.W.excIn K Cx4 [.type "ValueError", .type "Exception", .type "BaseException", .type "object"] "ValueError.__new__" = true)
    (x_5 : PySem.W.excIn K Cx5 [.type "ValueError", .type "Exception", .type "BaseException", .type "object"] "ValueError.__new__" = true)
    (x_6 : PySem.W.excIn K Cx6 [.type "ValueError", .type "Exception", .type "BaseException", .type "object"] "ValueError.__new__" = true)
    (x_7 : PySem.W.excIn K Cx7 [.type "ValueError", .type "Exception", .type "BaseException", .type "object"] "ValueError.__new__" = true)
    (x_8 : PySem.W.excIn K Cx8 [.type "ValueError", .type "Exception", .type "BaseException", .type "object"] "ValueError.__new__" = true)
    (s_0_0 : PySem.W.subIn K (.ref Cx0) (.ref Cx0) = some true)
    (s_0_1 : PySem.W.subIn K (.ref Cx0) (.ref Cx1) = some false)
    (s_0_2 : PySem.W.subIn K (.ref Cx0) (.ref Cx2) = some false)
    (s_0_3 : PySem.W.subIn K (.ref Cx0) (.ref Cx3) = some false)
    (s_0_4 : PySem.W.subIn K (.ref Cx0) (.ref Cx4) = some false)
    (s_0_5 : PySem.W.subIn K (.ref Cx0) (.ref Cx5) = some false)
    (s_0_6 : PySem.W.subIn K (.ref Cx0) (.ref Cx6) = some false)
    (s_0_7 : PySem.W.subIn K (.ref Cx0) (.ref Cx7) = some false)
    (s_0_8 : PySem.W.subIn K (.ref Cx0) (.ref Cx8) = some false)
    (s_0_9 : PySem.W.subIn K (.ref Cx0) (.ref Cx9) = some false)
    (s_0_10 : PySem.W.subIn K (.ref Cx0) (.ref Cx10) = some false)
    (s_1_0 : PySem.W.subIn K (.ref Cx1) (.ref Cx0) = some false)
    (s_1_1 : PySem.W.subIn K (.ref Cx1) (.ref Cx1) = some true)
    (s_1_2 : PySem.W.subIn K (.ref Cx1) (.ref Cx2) = some false)
    (s_1_3 : PySem.W.subIn K (.ref Cx1) (.ref Cx3) = some false)
    (s_1_4 : PySem.W.subIn K (.ref Cx1) (.ref Cx4) = some false)
    (s_1_5 : PySem.W.subIn K (.ref Cx1) (.ref Cx5) = some false)
    (s_1_6 : PySem.W.subIn K (.ref Cx1) (.ref Cx6) = some false)
    (s_1_7 : PySem.W.subIn K (.ref Cx1) (.ref Cx7) = some false)
    (s_1_8 : PySem.W.subIn K (.ref Cx1) (.ref Cx8) = some false)
    (s_1_9 : PySem.W.subIn K (.ref Cx1) (.ref Cx9) = some false)
    (s_1_10 : PySem.W.subIn K (.ref Cx1) (.ref Cx10) = some false)
    (s_2_0 : PySem.W.subIn K (.ref Cx2) (.ref Cx0) = some false)
    (s_2_1 : PySem.W.subIn K (.ref Cx2) (.ref Cx1) = some false)
    (s_2_2 : PySem.W.subIn K (.ref Cx2) (.ref Cx2) = some true)
    (s_2_3 : PySem.W.subIn K (.ref Cx2) (.ref Cx3) = some false)
    (s_2_4 : PySem.W.subIn K (.ref Cx2) (.ref Cx4) = some false)
    (s_2_5 : PySem.W.subIn K (.ref Cx2) (.ref Cx5) = some false)
    (s_2_6 : PySem.W.subIn K (.ref Cx2) (.ref Cx6) = some false)
    (s_2_7 : PySem.W.subIn K (.ref Cx2) (.ref Cx7) = some false)
    (s_2_8 : PySem.W.subIn K (.ref Cx2) (.ref Cx8) = some false)
    (s_2_9 : PySem.W.subIn K (.ref Cx2) (.ref Cx9) = some false)
    (s_2_10 : PySem.W.subIn K (.ref Cx2) (.ref Cx10) = some false)
    (s_3_0 : PySem.W.subIn K (.ref Cx3) (.ref Cx0) = some false)
    (s_3_1 : PySem.W.subIn K (.ref Cx3) (.ref Cx1) = some false)
    (s_3_2 : PySem.W.subIn K (.ref Cx3) (.ref Cx2) = some false)
    (s_3_3 : PySem.W.subIn K (.ref Cx3) (.ref Cx3) = some true)
    (s_3_4 : PySem.W.subIn K (.ref Cx3) (.ref Cx4) = some false)
    (s_3_5 : PySem.W.subIn K (.ref Cx3) (.ref Cx5) = some false)
    (s_3_6 : PySem.W.subIn K (.ref Cx3) (.ref Cx6) = some false)
    (s_3_7 : PySem.W.subIn K (.ref Cx3) (.ref Cx7) = some false)
    (s_3_8 : PySem.W.subIn K (.ref Cx3) (.ref Cx8) = some false)
    (s_3_9 : PySem.W.subIn K (.ref Cx3) (.ref Cx9) = some false)
    (s_3_10 : PySem.W.subIn K (.ref Cx3) (.ref Cx10) = some false)
    (s_4_0 : PySem.W.subIn K (.ref Cx4) (.ref Cx0) = some false)
    (s_4_1 : PySem.W.subIn K (.ref Cx4) (.ref Cx1) = some false)
    (s_4_2 : PySem.W.subIn K (.ref Cx4) (.ref Cx2) = some false)
    (s_4_3 : PySem.W.subIn K (.ref Cx4) (.ref Cx3) = some false)
    (s_4_4 : PySem.W.subIn K (.ref Cx4) (.ref Cx4) = some true)
    (s_4_5 : PySem.W.subIn K (.ref Cx4) (.ref Cx5) = some false)
    (s_4_6 : PySem.W.subIn K (.ref Cx4) (.ref Cx6) = some false)
    (s_4_7 : PySem.W.subIn K (.ref Cx4) (.ref Cx7) = some false)
    (s_4_8 : PySem.W.subIn K (.ref Cx4) (.ref Cx8) = some false)
    (s_4_9 : PySem.W.subIn K (.ref Cx4) (.ref Cx9) = some false)
    (s_4_10 : PySem.W.subIn K (.ref Cx4) (.ref Cx10) = some false)
    (s_5_0 : PySem.W.subIn K (.ref Cx5) (.ref Cx0) = some false)
    (s_5_1 : PySem.W.subIn K (.ref Cx5) (.ref Cx1) = some false)
    (s_5_2 : PySem.W.subIn K (.ref Cx5) (.ref Cx2) = some false)
    (s_5_3 : PySem.W.subIn K (.ref Cx5) (.ref Cx3) = some false)
    (s_5_4 : PySem.W.subIn K (.ref Cx5) (.ref Cx4) = some false)
    (s_5_5 : PySem.W.subIn K (.ref Cx5) (.ref Cx5) = some true)
    (s_5_6 : PySem.W.subIn K (.ref Cx5) (.ref Cx6) = some false)
    (s_5_7 : PySem.W.subIn K (.ref Cx5) (.ref Cx7) = some false)
    (s_5_8 : PySem.W.subIn K (.ref Cx5) (.ref Cx8) = some false)
    (s_5_9 : PySem.W.subIn K (.ref Cx5) (.ref Cx9) = some false)
    (s_5_10 : PySem.W.subIn K (.ref Cx5) (.ref Cx10) = some false)
    (s_6_0 : PySem.W.subIn K (.ref Cx6) (.ref Cx0) = some false)
    (s_6_1 : PySem.W.subIn K (.ref Cx6) (.ref Cx1) = some false)
    (s_6_2 : PySem.W.subIn K (.ref Cx6) (.ref Cx2) = some false)
    (s_6_3 : PySem.W.subIn K (.ref Cx6) (.ref Cx3) = some false)
    (s_6_4 : PySem.W.subIn K (.ref Cx6) (.ref Cx4) = some false)
    (s_6_5 : PySem.W.subIn K (.ref Cx6) (.ref Cx5) = some false)
    (s_6_6 : PySem.W.subIn K (.ref Cx6) (.ref Cx6) = some true)
    (s_6_7 : PySem.W.subIn K (.ref Cx6) (.ref Cx7) = some false)
    (s_6_8 : PySem.W.subIn K (.ref Cx6) (.ref Cx8) = some false)
    (s_6_9 : PySem.W.subIn K (.ref Cx6) (.ref Cx9) = some false)
    (s_6_10 : PySem.W.subIn K (.ref Cx6) (.ref Cx10) = some false)
    (s_7_0 : PySem.W.subIn K (.ref Cx7) (.ref Cx0) = some false)
    (s_7_1 : PySem.W.subIn K (.ref Cx7) (.ref Cx1) = some false)
    (s_7_2 : PySem.W.subIn K (.ref Cx7) (.ref Cx2) = some false)
    (s_7_3 : PySem.W.subIn K (.ref Cx7) (.ref Cx3) = some false)
    (s_7_4 : PySem.W.subIn K (.ref Cx7) (.ref Cx4) = some false)
    (s_7_5 : PySem.W.subIn K (.ref Cx7) (.ref Cx5) = some false)
    (s_7_6 : PySem.W.subIn K (.ref Cx7) (.ref Cx6) = some false)
    (s_7_7 : PySem.W.subIn K (.ref Cx7) (.ref Cx7) = some true)
    (s_7_8 : PySem.W.subIn K (.ref Cx7) (.ref Cx8) = some false)
    (s_7_9 : PySem.W.subIn K (.ref Cx7) (.ref Cx9) = some false)
    (s_7_10 : PySem.W.subIn K (.ref Cx7) (.ref Cx10) = some false)
    (s_8_0 : PySem.W.subIn K (.ref Cx8) (.ref Cx0) = some false)
    (s_8_1 : PySem.W.subIn K (.ref Cx8) (.ref Cx1) = some false)
    (s_8_2 : PySem.W.subIn K (.ref Cx8) (.ref Cx2) = some false)
    (s_8_3 : PySem.W.subIn K (.ref Cx8) (.ref Cx3) = some false)
    (s_8_4 : PySem.W.subIn K (.ref Cx8) (.ref Cx4) = some false)
    (s_8_5 : PySem.W.subIn K (.ref Cx8) (.ref Cx5) = some false)
    (s_8_6 : PySem.W.subIn K (.ref Cx8) (.ref Cx6) = some false)
    (s_8_7 : PySem.W.subIn K (.ref Cx8) (.ref Cx7) = some false)
    (s_8_8 : PySem.W.subIn K (.ref Cx8) (.ref Cx8) = some true)
    (s_8_9 : PySem.W.subIn K (.ref Cx8) (.ref Cx9) = some false)
    (s_8_10 : PySem.W.subIn K (.ref Cx8) (.ref Cx10) = some false)
    (s_9_0 : PySem.W.subIn K (.ref Cx9) (.ref Cx0) = some false)
    (s_9_1 : PySem.W.subIn K (.ref Cx9) (.ref Cx1) = some false)
    (s_9_2 : PySem.W.subIn K (.ref Cx9) (.ref Cx2) = some false)
    (s_9_3 : PySem.W.subIn K (.ref Cx9) (.ref Cx3) = some false)
    (s_9_4 : PySem.W.subIn K (.ref Cx9) (.ref Cx4) = some false)
    (s_9_5 : PySem.W.subIn K (.ref Cx9) (.ref Cx5) = some false)
    (s_9_6 : PySem.W.subIn K (.ref Cx9) (.ref Cx6) = some false)
    (s_9_7 : PySem.W.subIn K (.ref Cx9) (.ref Cx7) = some false)
    (s_9_8 : PySem.W.subIn K (.ref Cx9) (.ref Cx8) = some false)
    (s_9_9 : PySem.W.subIn K (.ref Cx9) (.ref Cx9) = some true)
    (s_9_10 : PySem.W.subIn K (.ref Cx9) (.ref Cx10) = some false)
    (s_10_0 : PySem.W.subIn K (.ref Cx10) (.ref Cx0) = some false)
    (s_10_1 : PySem.W.subIn K (.ref Cx10) (.ref Cx1) = some false)
    (s_10_2 : PySem.W.subIn K (.ref Cx10) (.ref Cx2) = some false)
    (s_10_3 : PySem.W.subIn K (.ref Cx10) (.ref Cx3) = some false)
    (s_10_4 : PySem.W.subIn K (.ref Cx10) (.ref Cx4) = some false)
    (s_10_5 : PySem.W.subIn K (.ref Cx10) (.ref Cx5) = some false)
    (s_10_6 : PySem.W.subIn K (.ref Cx10) (.ref Cx6) = some false)
    (s_10_7 : PySem.W.subIn K (.ref Cx10) (.ref Cx7) = some false)
    (s_10_8 : PySem.W.subIn K (.ref Cx10) (.ref Cx8) = some false)
    (s_10_9 : PySem.W.subIn K (.ref Cx10) (.ref Cx9) = some false)
    (s_10_10 : PySem.W.subIn K (.ref Cx10) (.ref Cx10) = some true)
    (kl_9 : K.lookup Cx9 = some (excClassObj nm_9 qn_9 Cx9 Nn_9 bs_9 bm_9 true sn_9 sub_9 ab_9 col_9 dd_9 k0_9 k1_9 k2_9 k3_9 k5_9 "ValueError.__new__"))
    (rv_9 : PySem.HandSPX.refsVE bm_9 = true)
    (sa_9 : PySem.W.findIn K (.ref Cx9) "__setattr__" = some (some (.builtin "object.__setattr__")))
    (ii_9 : PySem.W.findIn K (.ref Cx9) "__init__" = some (some (.ref f_9)))
    (it_9 : PySem.W.typeIn K (.ref f_9) = some (.type "function"))
    (lf_9 : K.lookup f_9 = some ⟨oc_9, od_9, .func (PySem.W.fnX "__init__" "Never.__init__" (C8.fnArgs s_Never_init) (C8.fnBody s_Never_init) (C8.fnScope s_Never_init) [("__class__", cc_9)] .none kV_9 dc_9 pm_9 an_9 (.ref cda_9) ct_9), sl_9⟩)
    (co_9 : PySem.W.codeIn K (.ref cda_9) "Never.__init__" = true)
    (ce_9 : K.lookup cc_9 = some ⟨cl_9, cld_9, .cell (some (.ref Cx9)), csl_9⟩)
    (cf_9 : K.lookup cda_9 = some ⟨ccl_9, cdd_9, .fields vs_9, ccs_9⟩)
    (v2_9 : (vs_9[2]? : Option Value) = some (.str file_9 tf_9))
    (fi_9 : ((l.prog.main.file : Str) == file_9) = true)
    (me_9 : PySem.W.mroIn K Cx9 (.ref Cx9) = some true)
    (su_9 : PySem.W.ks_superIn K Cx9 Cx9 "__init__" = some (some (.builtin "ValueError.__init__")))
    (kl_10 : K.lookup Cx10 = some (excClassObj nm_10 qn_10 Cx10 Nn_10 bs_10 bm_10 true sn_10 sub_10 ab_10 col_10 dd_10 k0_10 k1_10 k2_10 k3_10 k5_10 "ValueError.__new__"))
    (rv_10 : PySem.HandSPX.refsVE bm_10 = true)
    (sa_10 : PySem.W.findIn K (.ref Cx10) "__setattr__" = some (some (.builtin "object.__setattr__")))
    (ii_10 : PySem.W.findIn K (.ref Cx10) "__init__" = some (some (.ref f_10)))
    (it_10 : PySem.W.typeIn K (.ref f_10) = some (.type "function"))
    (lf_10 : K.lookup f_10 = some ⟨oc_10, od_10, .func (PySem.W.fnX "__init__" "Broken.__init__" (C8.fnArgs s_Broken_init) (C8.fnBody s_Broken_init) (C8.fnScope s_Broken_init) [("__class__", cc_10)] .none kV_10 dc_10 pm_10 an_10 (.ref cda_10) ct_10), sl_10⟩)
    (co_10 : PySem.W.codeIn K (.ref cda_10) "Broken.__init__" = true)
    (ce_10 : K.lookup cc_10 = some ⟨cl_10, cld_10, .cell (some (.ref Cx10)), csl_10⟩)
    (cf_10 : K.lookup cda_10 = some ⟨ccl_10, cdd_10, .fields vs_10, ccs_10⟩)
    (v2_10 : (vs_10[2]? : Option Value) = some (.str file_10 tf_10))
    (fi_10 : ((l.prog.main.file : Str) == file_10) = true)
    (me_10 : PySem.W.mroIn K Cx10 (.ref Cx10) = some true)
    (su_10 : PySem.W.ks_superIn K Cx10 Cx10 "__init__" = some (some (.builtin "ValueError.__init__")))
    (n9 : PySem.W.findIn K (.ref Cx9) "place" = some none)
    (n10 : PySem.W.findIn K (.ref Cx10) "k" = some none)
    (n11 : PySem.W.findIn K (.ref Cx10) "stretch" = some none)
    (a1 : PySem.W.nsIn K mainGlobals "_law_cell" = some (some (.ref f1)))
    (l1 : K.lookup f1 = some ⟨oc1, od1, .func (PySem.W.fnOf "_law_cell" "_law_cell" (C8.fnArgs s_Lcell) (C8.fnBody s_Lcell) (C8.fnScope s_Lcell) .none kV1 dc1 pm1 an1 cd1 ct1), sl1⟩)
    (c1 : PySem.W.codeIn K cd1 "_law_cell" = true)
    (k1 : PySem.W.keepIn K (.ref f1) = true)
    (a2 : PySem.W.nsIn K mainGlobals "_law_kinds" = some (some (.ref f2)))
    (l2 : K.lookup f2 = some ⟨oc2, od2, .func (PySem.W.fnOf "_law_kinds" "_law_kinds" (C8.fnArgs s_Lkinds) (C8.fnBody s_Lkinds) (C8.fnScope s_Lkinds) .none kV2 dc2 pm2 an2 cd2 ct2), sl2⟩)
    (c2 : PySem.W.codeIn K cd2 "_law_kinds" = true)
    (k2 : PySem.W.keepIn K (.ref f2) = true)
    (a3 : PySem.W.nsIn K mainGlobals "law" = some (some (.ref f3)))
    (l3 : K.lookup f3 = some ⟨oc3, od3, .func (PySem.W.fnOf "law" "law" (C8.fnArgs s_law) (C8.fnBody s_law) (C8.fnScope s_law) .none kV3 dc3 pm3 an3 cd3 ct3), sl3⟩)
    (c3 : PySem.W.codeIn K cd3 "law" = true)
    (k3 : PySem.W.keepIn K (.ref f3) = true) :
    ∃ fd : FuncData, (∀ (s : Shared) (v : Value), BindsTo s fd ⟨[v], []⟩ [("_law_script", v)]) ∧ ∀ base : Heap, K.In base → base.Ns mainGlobals mg → FnOk l.prog w K mg base CX0 3 fa fd ["_law_script"] (spLaw K) := by
  have e : f3 = fa := by
    have e := (PySem.W.mg_of X G a3).symm.trans hfa
    injection e with e
    injection e
  subst e
  have T : Blt mg := ⟨PySem.W.mg_none_of X G z_len, PySem.W.mg_none_of X G z_range, PySem.W.mg_none_of X G z_isinstance, PySem.W.mg_none_of X G z_ValueError⟩
  have R_NoBound : Rf K mg "NoBound" Cx0 := ⟨PySem.W.mg_of X G a_0, x_0, kp_0⟩
  have R_NoMoment : Rf K mg "NoMoment" Cx1 := ⟨PySem.W.mg_of X G a_1, x_1, kp_1⟩
  have R_NoCost : Rf K mg "NoCost" Cx2 := ⟨PySem.W.mg_of X G a_2, x_2, kp_2⟩
  have R_NoName : Rf K mg "NoName" Cx3 := ⟨PySem.W.mg_of X G a_3, x_3, kp_3⟩
  have R_NoPlace : Rf K mg "NoPlace" Cx4 := ⟨PySem.W.mg_of X G a_4, x_4, kp_4⟩
  have R_NoVisit : Rf K mg "NoVisit" Cx5 := ⟨PySem.W.mg_of X G a_5, x_5, kp_5⟩
  have R_Late : Rf K mg "Late" Cx6 := ⟨PySem.W.mg_of X G a_6, x_6, kp_6⟩
  have R_Full : Rf K mg "Full" Cx7 := ⟨PySem.W.mg_of X G a_7, x_7, kp_7⟩
  have R_BadRow : Rf K mg "BadRow" Cx8 := ⟨PySem.W.mg_of X G a_8, x_8, kp_8⟩
  have E_0 : ExcC K Cx0 := ⟨hg_0, hk_0, hs_0, hd_0, ha_0, hn, ht, hm_0⟩
  have E_1 : ExcC K Cx1 := ⟨hg_1, hk_1, hs_1, hd_1, ha_1, hn, ht, hm_1⟩
  have E_2 : ExcC K Cx2 := ⟨hg_2, hk_2, hs_2, hd_2, ha_2, hn, ht, hm_2⟩
  have E_3 : ExcC K Cx3 := ⟨hg_3, hk_3, hs_3, hd_3, ha_3, hn, ht, hm_3⟩
  have E_4 : ExcC K Cx4 := ⟨hg_4, hk_4, hs_4, hd_4, ha_4, hn, ht, hm_4⟩
  have E_5 : ExcC K Cx5 := ⟨hg_5, hk_5, hs_5, hd_5, ha_5, hn, ht, hm_5⟩
  have E_6 : ExcC K Cx6 := ⟨hg_6, hk_6, hs_6, hd_6, ha_6, hn, ht, hm_6⟩
  have E_7 : ExcC K Cx7 := ⟨hg_7, hk_7, hs_7, hd_7, ha_7, hn, ht, hm_7⟩
  have E_8 : ExcC K Cx8 := ⟨hg_8, hk_8, hs_8, hd_8, ha_8, hn, ht, hm_8⟩
  have E_9 : ExcC K Cx9 := ⟨hg_9, hk_9, hs_9, hd_9, ha_9, hn, ht, hm_9⟩
  have E_10 : ExcC K Cx10 := ⟨hg_10, hk_10, hs_10, hd_10, ha_10, hn, ht, hm_10⟩
  have ox_9 : OexC K Cx9 := ⟨⟨nm_9, qn_9, Nn_9, bs_9, bm_9, sn_9, sub_9, ab_9, col_9, dd_9, k0_9, k1_9, k2_9, k3_9, k5_9, kl_9, rv_9⟩, sa_9, hs_9, ty_9, kp_9⟩
  have ox_10 : OexC K Cx10 := ⟨⟨nm_10, qn_10, Nn_10, bs_10, bm_10, sn_10, sub_10, ab_10, col_10, dd_10, k0_10, k1_10, k2_10, k3_10, k5_10, kl_10, rv_10⟩, sa_10, hs_10, ty_10, kp_10⟩
  have S_9 : SupC K l.prog Cx9 f_9 cc_9 cda_9 := ⟨ox_9, ⟨cl_9, cld_9, csl_9, ce_9⟩, ⟨ccl_9, cdd_9, vs_9, ccs_9, file_9, tf_9, cf_9, v2_9, fi_9⟩, tops, me_9, sv_9, opq, su_9⟩
  have S_10 : SupC K l.prog Cx10 f_10 cc_10 cda_10 := ⟨ox_10, ⟨cl_10, cld_10, csl_10, ce_10⟩, ⟨ccl_10, cdd_10, vs_10, ccs_10, file_10, tf_10, cf_10, v2_10, fi_10⟩, tops, me_10, sv_10, opq, su_10⟩
  have X_Never : Xf K mg "Never" Cx9 f_9 _ ["self", "place"] := ⟨PySem.W.mg_of X G a_9, ox_9, ii_9, it_9, (.all fun us hl => match us, hl with | [_, _], _ => rfl : L2.Binds K (PySem.W.fnX "__init__" "Never.__init__" (C8.fnArgs s_Never_init) (C8.fnBody s_Never_init) (C8.fnScope s_Never_init) [("__class__", cc_9)] .none kV_9 dc_9 pm_9 an_9 (.ref cda_9) ct_9) ["self", "place"] [])⟩
  have X_Broken : Xf K mg "Broken" Cx10 f_10 _ ["self", "k", "stretch"] := ⟨PySem.W.mg_of X G a_10, ox_10, ii_10, it_10, (.all fun us hl => match us, hl with | [_, _, _], _ => rfl : L2.Binds K (PySem.W.fnX "__init__" "Broken.__init__" (C8.fnArgs s_Broken_init) (C8.fnBody s_Broken_init) (C8.fnScope s_Broken_init) [("__class__", cc_10)] .none kV_10 dc_10 pm_10 an_10 (.ref cda_10) ct_10) ["self", "k", "stretch"] [])⟩
  have kk : ∀ i j, i < 11 → j < 11 → PySem.W.kitOne K (.ref (([Cx0, Cx1, Cx2, Cx3, Cx4, Cx5, Cx6, Cx7, Cx8, Cx9, Cx10] : List Addr).getD i 0)) (.ref (([Cx0, Cx1, Cx2, Cx3, Cx4, Cx5, Cx6, Cx7, Cx8, Cx9, Cx10] : List Addr).getD j 0)) = some (decide (i = j)) := by
    intro i j hi hj
    match i, hi, j, hj with
    | 0, _, 0, _ => exact kit_yes hd_0 ty_0 s_0_0
    | 0, _, 1, _ => exact kit_no hd_1 ty_1 s_0_1 s_0_0
    | 0, _, 2, _ => exact kit_no hd_2 ty_2 s_0_2 s_0_0
    | 0, _, 3, _ => exact kit_no hd_3 ty_3 s_0_3 s_0_0
    | 0, _, 4, _ => exact kit_no hd_4 ty_4 s_0_4 s_0_0
    | 0, _, 5, _ => exact kit_no hd_5 ty_5 s_0_5 s_0_0
    | 0, _, 6, _ => exact kit_no hd_6 ty_6 s_0_6 s_0_0
    | 0, _, 7, _ => exact kit_no hd_7 ty_7 s_0_7 s_0_0
    | 0, _, 8, _ => exact kit_no hd_8 ty_8 s_0_8 s_0_0
    | 0, _, 9, _ => exact kit_no hd_9 ty_9 s_0_9 s_0_0
    | 0, _, 10, _ => exact kit_no hd_10 ty_10 s_0_10 s_0_0
    | 1, _, 0, _ => exact kit_no hd_0 ty_0 s_1_0 s_1_1
    | 1, _, 1, _ => exact kit_yes hd_1 ty_1 s_1_1
    | 1, _, 2, _ => exact kit_no hd_2 ty_2 s_1_2 s_1_1
    | 1, _, 3, _ => exact kit_no hd_3 ty_3 s_1_3 s_1_1
    | 1, _, 4, _ => exact kit_no hd_4 ty_4 s_1_4 s_1_1
    | 1, _, 5, _ => exact kit_no hd_5 ty_5 s_1_5 s_1_1
    | 1, _, 6, _ => exact kit_no hd_6 ty_6 s_1_6 s_1_1
    | 1, _, 7, _ => exact kit_no hd_7 ty_7 s_1_7 s_1_1
    | 1, _, 8, _ => exact kit_no hd_8 ty_8 s_1_8 s_1_1
    | 1, _, 9, _ => exact kit_no hd_9 ty_9 s_1_9 s_1_1
    | 1, _, 10, _ => exact kit_no hd_10 ty_10 s_1_10 s_1_1
    | 2, _, 0, _ => exact kit_no hd_0 ty_0 s_2_0 s_2_2
    | 2, _, 1, _ => exact kit_no hd_1 ty_1 s_2_1 s_2_2
    | 2, _, 2, _ => exact kit_yes hd_2 ty_2 s_2_2
    | 2, _, 3, _ => exact kit_no hd_3 ty_3 s_2_3 s_2_2
    | 2, _, 4, _ => exact kit_no hd_4 ty_4 s_2_4 s_2_2
    | 2, _, 5, _ => exact kit_no hd_5 ty_5 s_2_5 s_2_2
    | 2, _, 6, _ => exact kit_no hd_6 ty_6 s_2_6 s_2_2
    | 2, _, 7, _ => exact kit_no hd_7 ty_7 s_2_7 s_2_2
    | 2, _, 8, _ => exact kit_no hd_8 ty_8 s_2_8 s_2_2
    | 2, _, 9, _ => exact kit_no hd_9 ty_9 s_2_9 s_2_2
    | 2, _, 10, _ => exact kit_no hd_10 ty_10 s_2_10 s_2_2
    | 3, _, 0, _ => exact kit_no hd_0 ty_0 s_3_0 s_3_3
    | 3, _, 1, _ => exact kit_no hd_1 ty_1 s_3_1 s_3_3
    | 3, _, 2, _ => exact kit_no hd_2 ty_2 s_3_2 s_3_3
    | 3, _, 3, _ => exact kit_yes hd_3 ty_3 s_3_3
    | 3, _, 4, _ => exact kit_no hd_4 ty_4 s_3_4 s_3_3
    | 3, _, 5, _ => exact kit_no hd_5 ty_5 s_3_5 s_3_3
    | 3, _, 6, _ => exact kit_no hd_6 ty_6 s_3_6 s_3_3
    | 3, _, 7, _ => exact kit_no hd_7 ty_7 s_3_7 s_3_3
    | 3, _, 8, _ => exact kit_no hd_8 ty_8 s_3_8 s_3_3
    | 3, _, 9, _ => exact kit_no hd_9 ty_9 s_3_9 s_3_3
    | 3, _, 10, _ => exact kit_no hd_10 ty_10 s_3_10 s_3_3
    | 4, _, 0, _ => exact kit_no hd_0 ty_0 s_4_0 s_4_4
    | 4, _, 1, _ => exact kit_no hd_1 ty_1 s_4_1 s_4_4
    | 4, _, 2, _ => exact kit_no hd_2 ty_2 s_4_2 s_4_4
    | 4, _, 3, _ => exact kit_no hd_3 ty_3 s_4_3 s_4_4
    | 4, _, 4, _ => exact kit_yes hd_4 ty_4 s_4_4
    | 4, _, 5, _ => exact kit_no hd_5 ty_5 s_4_5 s_4_4
    | 4, _, 6, _ => exact kit_no hd_6 ty_6 s_4_6 s_4_4
    | 4, _, 7, _ => exact kit_no hd_7 ty_7 s_4_7 s_4_4
    | 4, _, 8, _ => exact kit_no hd_8 ty_8 s_4_8 s_4_4
    | 4, _, 9, _ => exact kit_no hd_9 ty_9 s_4_9 s_4_4
    | 4, _, 10, _ => exact kit_no hd_10 ty_10 s_4_10 s_4_4
    | 5, _, 0, _ => exact kit_no hd_0 ty_0 s_5_0 s_5_5
    | 5, _, 1, _ => exact kit_no hd_1 ty_1 s_5_1 s_5_5
    | 5, _, 2, _ => exact kit_no hd_2 ty_2 s_5_2 s_5_5
    | 5, _, 3, _ => exact kit_no hd_3 ty_3 s_5_3 s_5_5
    | 5, _, 4, _ => exact kit_no hd_4 ty_4 s_5_4 s_5_5
    | 5, _, 5, _ => exact kit_yes hd_5 ty_5 s_5_5
    | 5, _, 6, _ => exact kit_no hd_6 ty_6 s_5_6 s_5_5
    | 5, _, 7, _ => exact kit_no hd_7 ty_7 s_5_7 s_5_5
    | 5, _, 8, _ => exact kit_no hd_8 ty_8 s_5_8 s_5_5
    | 5, _, 9, _ => exact kit_no hd_9 ty_9 s_5_9 s_5_5
    | 5, _, 10, _ => exact kit_no hd_10 ty_10 s_5_10 s_5_5
    | 6, _, 0, _ => exact kit_no hd_0 ty_0 s_6_0 s_6_6
    | 6, _, 1, _ => exact kit_no hd_1 ty_1 s_6_1 s_6_6
    | 6, _, 2, _ => exact kit_no hd_2 ty_2 s_6_2 s_6_6
    | 6, _, 3, _ => exact kit_no hd_3 ty_3 s_6_3 s_6_6
    | 6, _, 4, _ => exact kit_no hd_4 ty_4 s_6_4 s_6_6
    | 6, _, 5, _ => exact kit_no hd_5 ty_5 s_6_5 s_6_6
    | 6, _, 6, _ => exact kit_yes hd_6 ty_6 s_6_6
    | 6, _, 7, _ => exact kit_no hd_7 ty_7 s_6_7 s_6_6
    | 6, _, 8, _ => exact kit_no hd_8 ty_8 s_6_8 s_6_6
    | 6, _, 9, _ => exact kit_no hd_9 ty_9 s_6_9 s_6_6
    | 6, _, 10, _ => exact kit_no hd_10 ty_10 s_6_10 s_6_6
    | 7, _, 0, _ => exact kit_no hd_0 ty_0 s_7_0 s_7_7
    | 7, _, 1, _ => exact kit_no hd_1 ty_1 s_7_1 s_7_7
    | 7, _, 2, _ => exact kit_no hd_2 ty_2 s_7_2 s_7_7
    | 7, _, 3, _ => exact kit_no hd_3 ty_3 s_7_3 s_7_7
    | 7, _, 4, _ => exact kit_no hd_4 ty_4 s_7_4 s_7_7
    | 7, _, 5, _ => exact kit_no hd_5 ty_5 s_7_5 s_7_7
    | 7, _, 6, _ => exact kit_no hd_6 ty_6 s_7_6 s_7_7
    | 7, _, 7, _ => exact kit_yes hd_7 ty_7 s_7_7
    | 7, _, 8, _ => exact kit_no hd_8 ty_8 s_7_8 s_7_7
    | 7, _, 9, _ => exact kit_no hd_9 ty_9 s_7_9 s_7_7
    | 7, _, 10, _ => exact kit_no hd_10 ty_10 s_7_10 s_7_7
    | 8, _, 0, _ => exact kit_no hd_0 ty_0 s_8_0 s_8_8
    | 8, _, 1, _ => exact kit_no hd_1 ty_1 s_8_1 s_8_8
    | 8, _, 2, _ => exact kit_no hd_2 ty_2 s_8_2 s_8_8
    | 8, _, 3, _ => exact kit_no hd_3 ty_3 s_8_3 s_8_8
    | 8, _, 4, _ => exact kit_no hd_4 ty_4 s_8_4 s_8_8
    | 8, _, 5, _ => exact kit_no hd_5 ty_5 s_8_5 s_8_8
    | 8, _, 6, _ => exact kit_no hd_6 ty_6 s_8_6 s_8_8
    | 8, _, 7, _ => exact kit_no hd_7 ty_7 s_8_7 s_8_8
    | 8, _, 8, _ => exact kit_yes hd_8 ty_8 s_8_8
    | 8, _, 9, _ => exact kit_no hd_9 ty_9 s_8_9 s_8_8
    | 8, _, 10, _ => exact kit_no hd_10 ty_10 s_8_10 s_8_8
    | 9, _, 0, _ => exact kit_no hd_0 ty_0 s_9_0 s_9_9
    | 9, _, 1, _ => exact kit_no hd_1 ty_1 s_9_1 s_9_9
    | 9, _, 2, _ => exact kit_no hd_2 ty_2 s_9_2 s_9_9
    | 9, _, 3, _ => exact kit_no hd_3 ty_3 s_9_3 s_9_9
    | 9, _, 4, _ => exact kit_no hd_4 ty_4 s_9_4 s_9_9
    | 9, _, 5, _ => exact kit_no hd_5 ty_5 s_9_5 s_9_9
    | 9, _, 6, _ => exact kit_no hd_6 ty_6 s_9_6 s_9_9
    | 9, _, 7, _ => exact kit_no hd_7 ty_7 s_9_7 s_9_9
    | 9, _, 8, _ => exact kit_no hd_8 ty_8 s_9_8 s_9_9
    | 9, _, 9, _ => exact kit_yes hd_9 ty_9 s_9_9
    | 9, _, 10, _ => exact kit_no hd_10 ty_10 s_9_10 s_9_9
    | 10, _, 0, _ => exact kit_no hd_0 ty_0 s_10_0 s_10_10
    | 10, _, 1, _ => exact kit_no hd_1 ty_1 s_10_1 s_10_10
    | 10, _, 2, _ => exact kit_no hd_2 ty_2 s_10_2 s_10_10
    | 10, _, 3, _ => exact kit_no hd_3 ty_3 s_10_3 s_10_10
    | 10, _, 4, _ => exact kit_no hd_4 ty_4 s_10_4 s_10_10
    | 10, _, 5, _ => exact kit_no hd_5 ty_5 s_10_5 s_10_10
    | 10, _, 6, _ => exact kit_no hd_6 ty_6 s_10_6 s_10_10
    | 10, _, 7, _ => exact kit_no hd_7 ty_7 s_10_7 s_10_10
    | 10, _, 8, _ => exact kit_no hd_8 ty_8 s_10_8 s_10_10
    | 10, _, 9, _ => exact kit_no hd_9 ty_9 s_10_9 s_10_10
    | 10, _, 10, _ => exact kit_yes hd_10 ty_10 s_10_10
    | n + 11, h, _, _ => exact absurd h (by omega)
    | _, _, n + 11, h => exact absurd h (by omega)
  have exA : ∀ i, i < 11 → ExcC K (([Cx0, Cx1, Cx2, Cx3, Cx4, Cx5, Cx6, Cx7, Cx8, Cx9, Cx10] : List Addr).getD i 0) := by
    intro i hi
    match i, hi with
    | 0, _ => exact E_0
    | 1, _ => exact E_1
    | 2, _ => exact E_2
    | 3, _ => exact E_3
    | 4, _ => exact E_4
    | 5, _ => exact E_5
    | 6, _ => exact E_6
    | 7, _ => exact E_7
    | 8, _ => exact E_8
    | 9, _ => exact E_9
    | 10, _ => exact E_10
    | n + 11, h => exact absurd h (by omega)
  have kG : ∀ i, i < 11 → PySem.W.kitOne K (.ref (([Cx0, Cx1, Cx2, Cx3, Cx4, Cx5, Cx6, Cx7, Cx8, Cx9, Cx10] : List Addr).getD i 0)) (.ref cG) = some true := by
    intro i hi
    match i, hi with
    | 0, _ => exact kit_yes dG tG sg_0
    | 1, _ => exact kit_yes dG tG sg_1
    | 2, _ => exact kit_yes dG tG sg_2
    | 3, _ => exact kit_yes dG tG sg_3
    | 4, _ => exact kit_yes dG tG sg_4
    | 5, _ => exact kit_yes dG tG sg_5
    | 6, _ => exact kit_yes dG tG sg_6
    | 7, _ => exact kit_yes dG tG sg_7
    | 8, _ => exact kit_yes dG tG sg_8
    | 9, _ => exact kit_yes dG tG sg_9
    | 10, _ => exact kit_yes dG tG sg_10
    | n + 11, h => exact absurd h (by omega)
  have kV : ∀ i, i < 11 → PySem.W.kitOne K (.ref (([Cx0, Cx1, Cx2, Cx3, Cx4, Cx5, Cx6, Cx7, Cx8, Cx9, Cx10] : List Addr).getD i 0)) (.type "ValueError") = some true := by
    intro i hi
    match i, hi with
    | 0, _ => exact kit_ve sv_0
    | 1, _ => exact kit_ve sv_1
    | 2, _ => exact kit_ve sv_2
    | 3, _ => exact kit_ve sv_3
    | 4, _ => exact kit_ve sv_4
    | 5, _ => exact kit_ve sv_5
    | 6, _ => exact kit_ve sv_6
    | 7, _ => exact kit_ve sv_7
    | 8, _ => exact kit_ve sv_8
    | 9, _ => exact kit_ve sv_9
    | 10, _ => exact kit_ve sv_10
    | n + 11, h => exact absurd h (by omega)
  have GK : Kds K mg cG (fun i => ([Cx0, Cx1, Cx2, Cx3, Cx4, Cx5, Cx6, Cx7, Cx8, Cx9, Cx10] : List Addr).getD i 0) := ⟨PySem.W.mg_of X G aG, PySem.W.mg_of X G a_0, PySem.W.mg_of X G a_1, PySem.W.mg_of X G a_2, PySem.W.mg_of X G a_3, PySem.W.mg_of X G a_4, PySem.W.mg_of X G a_5, PySem.W.mg_of X G a_6, PySem.W.mg_of X G a_7, PySem.W.mg_of X G a_8, PySem.W.mg_of X G a_9, PySem.W.mg_of X G a_10, exA, kG, kV, kk⟩
  have F1 : C8.Fun K "_law_cell" "_law_cell" s_Lcell f1 _ := ⟨⟨oc1, od1, .none, kV1, dc1, pm1, an1, cd1, ct1, sl1, rfl, l1, c1⟩⟩
  have b1 : Binds K _ ["_law_script", "_law_k"] [] := F1.binds rfl (ps := ["_law_script", "_law_k"]) fun _ _ _ _ _ _ us hl => match us, hl with | [_, _], _ => rfl
  have df_Lcell : C8.Def K mg "_law_cell" s_Lcell f1 _ := ⟨F1, PySem.W.mg_of X G a1, k1⟩
  have bi_Lcell := b1
  have F2 : C8.Fun K "_law_kinds" "_law_kinds" s_Lkinds f2 _ := ⟨⟨oc2, od2, .none, kV2, dc2, pm2, an2, cd2, ct2, sl2, rfl, l2, c2⟩⟩
  have b2 : Binds K _ ["_law_e"] [] := F2.binds rfl (ps := ["_law_e"]) fun _ _ _ _ _ _ us hl => match us, hl with | [_], _ => rfl
  have df_Lkinds : C8.Def K mg "_law_kinds" s_Lkinds f2 _ := ⟨F2, PySem.W.mg_of X G a2, k2⟩
  have bi_Lkinds := b2
  have F3 : C8.Fun K "law" "law" s_law f3 _ := ⟨⟨oc3, od3, .none, kV3, dc3, pm3, an3, cd3, ct3, sl3, rfl, l3, c3⟩⟩
  have b3 : Binds K _ ["_law_script"] [] := F3.binds rfl (ps := ["_law_script"]) fun _ _ _ _ _ _ us hl => match us, hl with | [_], _ => rfl
  have df_law : C8.Def K mg "law" s_law f3 _ := ⟨F3, PySem.W.mg_of X G a3, k3⟩
  have bi_law := b3
  refine ⟨PySem.W.fnOf "law" "law" (C8.fnArgs s_law) (C8.fnBody s_law) (C8.fnScope s_law) .none kV3 dc3 pm3 an3 cd3 ct3, fun s v => .of_eq rfl, fun base _ _ => ?_⟩
  have cell := cal_Lcell (P := l.prog) (w := w) (base := base) (mg := mg) T df_Lcell bi_Lcell
  have kinds := cal_Lkinds (P := l.prog) (w := w) (base := base) (mg := mg) T GK df_Lkinds bi_Lkinds
  have okN := ok_Never (P := l.prog) (w := w) (base := base) (mg := mg) S_9 (PySem.W.mg_none_of X G z_super) n9 lf_9 co_9
  have okB := ok_Broken (P := l.prog) (w := w) (base := base) (mg := mg) S_10 (PySem.W.mg_none_of X G z_super) n10 n11 lf_10 co_10
  exact ok_law T GK df_law.fn cell kinds R_NoBound R_NoMoment R_NoCost R_NoName R_NoPlace R_NoVisit R_Late R_Full R_BadRow X_Never X_Broken okN okB n9 n10 n11
theorem walk {l : PySem.W.OpenLaw} {q : Program} {loose : List Str} {XP : (Str → Option Value) → Heap → Prop} {YP : World → Heap → Prop} {d : DefRec} {K : Params → PySem.W.Frag} (hn : l.most = some 63) (hdf : d.params.defaults = [])
    (hY : ∀ (w : World) (h : Heap), YP w h → (K w.params).In h)
    (F : ∀ (w : World) (mg : Str → Option Value) (fa : Addr) (h : Heap), (K w.params).In h → h.Ns mainGlobals mg → mg d.name = some (.ref fa) →
      ∃ fd : FuncData, (∀ (s : Shared) (u : Value), BindsTo s fd ⟨[u], []⟩ [("_law_script", u)]) ∧ ∀ base : Heap, (K w.params).In base → base.Ns mainGlobals mg → FnOk l.prog w (K w.params) mg base CX0 3 fa fd ["_law_script"] (spLaw (K w.params))) :
    PySem.W.WalkO q loose XP YP l.row.toRowW d [] (fun f vs => PySem.call f vs) :=
  L2.walk_of (n := 63) (k := 3) (x := "_law_script") (CX := fun _ => CX0) (sp := fun w => spLaw (K w.params)) hn (by decide) hdf ⟨rfl, by decide, by decide⟩ hY F (fun _ _ a ns hl _ hS => ⟨a, ns, rfl, hS, hl, fun _ => rfl⟩) fun _ _ _ _ _ z => z
end
end Tk
open PySem PySem.W PyProof.Rows
set_option maxRecDepth 100000 in
set_option maxHeartbeats 0 in
theorem PySem.Challenge.cw_turnstile_k01_refusals_apart_holds : PySem.Challenge.rw_turnstile_k01_refusals_apart.Holds := by
  w_on; o_law; k_head; (case hw => w_witness2)
  k_fill
  refine Tk.walk (l := PySem.Challenge.rw_turnstile_k01_refusals_apart) rfl rfl (fun w h Y => PySem.W.kIn_of Y) ?F
  case F =>
    intro w mg fa h KX G hmg
    refine' Tk.all_mk KX G hmg ?z_len ?z_range ?z_isinstance ?z_ValueError ?z_super ?aG ?dG ?tG ?hn ?ht ?opq ?tops ?a_0 ?a_1 ?a_2 ?a_3 ?a_4 ?a_5 ?a_6 ?a_7 ?a_8 ?a_9 ?a_10 ?kp_0 ?hg_0 ?hk_0 ?hs_0 ?hd_0 ?ha_0 ?hm_0 ?sg_0 ?sv_0 ?ty_0 ?kp_1 ?hg_1 ?hk_1 ?hs_1 ?hd_1 ?ha_1 ?hm_1 ?sg_1 ?sv_1 ?ty_1 ?kp_2 ?hg_2 ?hk_2 ?hs_2 ?hd_2 ?ha_2 ?hm_2 ?sg_2 ?sv_2 ?ty_2 ?kp_3 ?hg_3 ?hk_3 ?hs_3 ?hd_3 ?ha_3 ?hm_3 ?sg_3 ?sv_3 ?ty_3 ?kp_4 ?hg_4 ?hk_4 ?hs_4 ?hd_4 ?ha_4 ?hm_4 ?sg_4 ?sv_4 ?ty_4 ?kp_5 ?hg_5 ?hk_5 ?hs_5 ?hd_5 ?ha_5 ?hm_5 ?sg_5 ?sv_5 ?ty_5 ?kp_6 ?hg_6 ?hk_6 ?hs_6 ?hd_6 ?ha_6 ?hm_6 ?sg_6 ?sv_6 ?ty_6 ?kp_7 ?hg_7 ?hk_7 ?hs_7 ?hd_7 ?ha_7 ?hm_7 ?sg_7 ?sv_7 ?ty_7 ?kp_8 ?hg_8 ?hk_8 ?hs_8 ?hd_8 ?ha_8 ?hm_8 ?sg_8 ?sv_8 ?ty_8 ?kp_9 ?hg_9 ?hk_9 ?hs_9 ?hd_9 ?ha_9 ?hm_9 ?sg_9 ?sv_9 ?ty_9 ?kp_10 ?hg_10 ?hk_10 ?hs_10 ?hd_10 ?ha_10 ?hm_10 ?sg_10 ?sv_10 ?ty_10 ?x_0 ?x_1 ?x_2 ?x_3 ?x_4 ?x_5 ?x_6 ?x_7 ?x_8 ?s_0_0 ?s_0_1 ?s_0_2 ?s_0_3 ?s_0_4 ?s_0_5 ?s_0_6 ?s_0_7 ?s_0_8 ?s_0_9 ?s_0_10 ?s_1_0 ?s_1_1 ?s_1_2 ?s_1_3 ?s_1_4 ?s_1_5 ?s_1_6 ?s_1_7 ?s_1_8 ?s_1_9 ?s_1_10 ?s_2_0 ?s_2_1 ?s_2_2 ?s_2_3 ?s_2_4 ?s_2_5 ?s_2_6 ?s_2_7 ?s_2_8 ?s_2_9 ?s_2_10 ?s_3_0 ?s_3_1 ?s_3_2 ?s_3_3 ?s_3_4 ?s_3_5 ?s_3_6 ?s_3_7 ?s_3_8 ?s_3_9 ?s_3_10 ?s_4_0 ?s_4_1 ?s_4_2 ?s_4_3 ?s_4_4 ?s_4_5 ?s_4_6 ?s_4_7 ?s_4_8 ?s_4_9 ?s_4_10 ?s_5_0 ?s_5_1 ?s_5_2 ?s_5_3 ?s_5_4 ?s_5_5 ?s_5_6 ?s_5_7 ?s_5_8 ?s_5_9 ?s_5_10 ?s_6_0 ?s_6_1 ?s_6_2 ?s_6_3 ?s_6_4 ?s_6_5 ?s_6_6 ?s_6_7 ?s_6_8 ?s_6_9 ?s_6_10 ?s_7_0 ?s_7_1 ?s_7_2 ?s_7_3 ?s_7_4 ?s_7_5 ?s_7_6 ?s_7_7 ?s_7_8 ?s_7_9 ?s_7_10 ?s_8_0 ?s_8_1 ?s_8_2 ?s_8_3 ?s_8_4 ?s_8_5 ?s_8_6 ?s_8_7 ?s_8_8 ?s_8_9 ?s_8_10 ?s_9_0 ?s_9_1 ?s_9_2 ?s_9_3 ?s_9_4 ?s_9_5 ?s_9_6 ?s_9_7 ?s_9_8 ?s_9_9 ?s_9_10 ?s_10_0 ?s_10_1 ?s_10_2 ?s_10_3 ?s_10_4 ?s_10_5 ?s_10_6 ?s_10_7 ?s_10_8 ?s_10_9 ?s_10_10 ?kl_9 ?rv_9 ?sa_9 ?ii_9 ?it_9 ?lf_9 ?co_9 ?ce_9 ?cf_9 ?v2_9 ?fi_9 ?me_9 ?su_9 ?kl_10 ?rv_10 ?sa_10 ?ii_10 ?it_10 ?lf_10 ?co_10 ?ce_10 ?cf_10 ?v2_10 ?fi_10 ?me_10 ?su_10 ?n9 ?n10 ?n11 ?a1 ?l1 ?c1 ?k1 ?a2 ?l2 ?c2 ?k2 ?a3 ?l3 ?c3 ?k3
    (case z_len => k_is)
    (case z_range => k_is)
    (case z_isinstance => k_is)
    (case z_ValueError => k_is)
    (case z_super => k_is)
    (case aG => k_is)
    (case dG => k_is)
    (case tG => k_is)
    (case hn => k_is)
    (case ht => k_is)
    (case opq => k_is)
    (case tops => exact rfl)
    (case a_0 => k_is)
    (case a_1 => k_is)
    (case a_2 => k_is)
    (case a_3 => k_is)
    (case a_4 => k_is)
    (case a_5 => k_is)
    (case a_6 => k_is)
    (case a_7 => k_is)
    (case a_8 => k_is)
    (case a_9 => k_is)
    (case a_10 => k_is)
    (case kp_0 => k_is)
    (case hg_0 => k_is)
    (case hk_0 => k_is)
    (case hs_0 => k_is)
    (case hd_0 => k_is)
    (case ha_0 => k_is)
    (case hm_0 => k_is)
    (case sg_0 => k_is)
    (case sv_0 => k_is)
    (case ty_0 => k_is)
    (case kp_1 => k_is)
    (case hg_1 => k_is)
    (case hk_1 => k_is)
    (case hs_1 => k_is)
    (case hd_1 => k_is)
    (case ha_1 => k_is)
    (case hm_1 => k_is)
    (case sg_1 => k_is)
    (case sv_1 => k_is)
    (case ty_1 => k_is)
    (case kp_2 => k_is)
    (case hg_2 => k_is)
    (case hk_2 => k_is)
    (case hs_2 => k_is)
    (case hd_2 => k_is)
    (case ha_2 => k_is)
    (case hm_2 => k_is)
    (case sg_2 => k_is)
    (case sv_2 => k_is)
    (case ty_2 => k_is)
    (case kp_3 => k_is)
    (case hg_3 => k_is)
    (case hk_3 => k_is)
    (case hs_3 => k_is)
    (case hd_3 => k_is)
    (case ha_3 => k_is)
    (case hm_3 => k_is)
    (case sg_3 => k_is)
    (case sv_3 => k_is)
    (case ty_3 => k_is)
    (case kp_4 => k_is)
    (case hg_4 => k_is)
    (case hk_4 => k_is)
    (case hs_4 => k_is)
    (case hd_4 => k_is)
    (case ha_4 => k_is)
    (case hm_4 => k_is)
    (case sg_4 => k_is)
    (case sv_4 => k_is)
    (case ty_4 => k_is)
    (case kp_5 => k_is)
    (case hg_5 => k_is)
    (case hk_5 => k_is)
    (case hs_5 => k_is)
    (case hd_5 => k_is)
    (case ha_5 => k_is)
    (case hm_5 => k_is)
    (case sg_5 => k_is)
    (case sv_5 => k_is)
    (case ty_5 => k_is)
    (case kp_6 => k_is)
    (case hg_6 => k_is)
    (case hk_6 => k_is)
    (case hs_6 => k_is)
    (case hd_6 => k_is)
    (case ha_6 => k_is)
    (case hm_6 => k_is)
    (case sg_6 => k_is)
    (case sv_6 => k_is)
    (case ty_6 => k_is)
    (case kp_7 => k_is)
    (case hg_7 => k_is)
    (case hk_7 => k_is)
    (case hs_7 => k_is)
    (case hd_7 => k_is)
    (case ha_7 => k_is)
    (case hm_7 => k_is)
    (case sg_7 => k_is)
    (case sv_7 => k_is)
    (case ty_7 => k_is)
    (case kp_8 => k_is)
    (case hg_8 => k_is)
    (case hk_8 => k_is)
    (case hs_8 => k_is)
    (case hd_8 => k_is)
    (case ha_8 => k_is)
    (case hm_8 => k_is)
    (case sg_8 => k_is)
    (case sv_8 => k_is)
    (case ty_8 => k_is)
    (case kp_9 => k_is)
    (case hg_9 => k_is)
    (case hk_9 => k_is)
    (case hs_9 => k_is)
    (case hd_9 => k_is)
    (case ha_9 => k_is)
    (case hm_9 => k_is)
    (case sg_9 => k_is)
    (case sv_9 => k_is)
    (case ty_9 => k_is)
    (case kp_10 => k_is)
    (case hg_10 => k_is)
    (case hk_10 => k_is)
    (case hs_10 => k_is)
    (case hd_10 => k_is)
    (case ha_10 => k_is)
    (case hm_10 => k_is)
    (case sg_10 => k_is)
    (case sv_10 => k_is)
    (case ty_10 => k_is)
    (case x_0 => k_exc)
    (case x_1 => k_exc)
    (case x_2 => k_exc)
    (case x_3 => k_exc)
    (case x_4 => k_exc)
    (case x_5 => k_exc)
    (case x_6 => k_exc)
    (case x_7 => k_exc)
    (case x_8 => k_exc)
    (case s_0_0 => k_is)
    (case s_0_1 => k_is)
    (case s_0_2 => k_is)
    (case s_0_3 => k_is)
    (case s_0_4 => k_is)
    (case s_0_5 => k_is)
    (case s_0_6 => k_is)
    (case s_0_7 => k_is)
    (case s_0_8 => k_is)
    (case s_0_9 => k_is)
    (case s_0_10 => k_is)
    (case s_1_0 => k_is)
    (case s_1_1 => k_is)
    (case s_1_2 => k_is)
    (case s_1_3 => k_is)
    (case s_1_4 => k_is)
    (case s_1_5 => k_is)
    (case s_1_6 => k_is)
    (case s_1_7 => k_is)
    (case s_1_8 => k_is)
    (case s_1_9 => k_is)
    (case s_1_10 => k_is)
    (case s_2_0 => k_is)
    (case s_2_1 => k_is)
    (case s_2_2 => k_is)
    (case s_2_3 => k_is)
    (case s_2_4 => k_is)
    (case s_2_5 => k_is)
    (case s_2_6 => k_is)
    (case s_2_7 => k_is)
    (case s_2_8 => k_is)
    (case s_2_9 => k_is)
    (case s_2_10 => k_is)
    (case s_3_0 => k_is)
    (case s_3_1 => k_is)
    (case s_3_2 => k_is)
    (case s_3_3 => k_is)
    (case s_3_4 => k_is)
    (case s_3_5 => k_is)
    (case s_3_6 => k_is)
    (case s_3_7 => k_is)
    (case s_3_8 => k_is)
    (case s_3_9 => k_is)
    (case s_3_10 => k_is)
    (case s_4_0 => k_is)
    (case s_4_1 => k_is)
    (case s_4_2 => k_is)
    (case s_4_3 => k_is)
    (case s_4_4 => k_is)
    (case s_4_5 => k_is)
    (case s_4_6 => k_is)
    (case s_4_7 => k_is)
    (case s_4_8 => k_is)
    (case s_4_9 => k_is)
    (case s_4_10 => k_is)
    (case s_5_0 => k_is)
    (case s_5_1 => k_is)
    (case s_5_2 => k_is)
    (case s_5_3 => k_is)
    (case s_5_4 => k_is)
    (case s_5_5 => k_is)
    (case s_5_6 => k_is)
    (case s_5_7 => k_is)
    (case s_5_8 => k_is)
    (case s_5_9 => k_is)
    (case s_5_10 => k_is)
    (case s_6_0 => k_is)
    (case s_6_1 => k_is)
    (case s_6_2 => k_is)
    (case s_6_3 => k_is)
    (case s_6_4 => k_is)
    (case s_6_5 => k_is)
    (case s_6_6 => k_is)
    (case s_6_7 => k_is)
    (case s_6_8 => k_is)
    (case s_6_9 => k_is)
    (case s_6_10 => k_is)
    (case s_7_0 => k_is)
    (case s_7_1 => k_is)
    (case s_7_2 => k_is)
    (case s_7_3 => k_is)
    (case s_7_4 => k_is)
    (case s_7_5 => k_is)
    (case s_7_6 => k_is)
    (case s_7_7 => k_is)
    (case s_7_8 => k_is)
    (case s_7_9 => k_is)
    (case s_7_10 => k_is)
    (case s_8_0 => k_is)
    (case s_8_1 => k_is)
    (case s_8_2 => k_is)
    (case s_8_3 => k_is)
    (case s_8_4 => k_is)
    (case s_8_5 => k_is)
    (case s_8_6 => k_is)
    (case s_8_7 => k_is)
    (case s_8_8 => k_is)
    (case s_8_9 => k_is)
    (case s_8_10 => k_is)
    (case s_9_0 => k_is)
    (case s_9_1 => k_is)
    (case s_9_2 => k_is)
    (case s_9_3 => k_is)
    (case s_9_4 => k_is)
    (case s_9_5 => k_is)
    (case s_9_6 => k_is)
    (case s_9_7 => k_is)
    (case s_9_8 => k_is)
    (case s_9_9 => k_is)
    (case s_9_10 => k_is)
    (case s_10_0 => k_is)
    (case s_10_1 => k_is)
    (case s_10_2 => k_is)
    (case s_10_3 => k_is)
    (case s_10_4 => k_is)
    (case s_10_5 => k_is)
    (case s_10_6 => k_is)
    (case s_10_7 => k_is)
    (case s_10_8 => k_is)
    (case s_10_9 => k_is)
    (case s_10_10 => k_is)
    (case kl_9 => k_is)
    (case rv_9 => first | exact rfl | decide +kernel)
    (case sa_9 => k_is)
    (case ii_9 => k_is)
    (case it_9 => k_is)
    (case lf_9 => k_is)
    (case co_9 => k_is)
    (case ce_9 => k_is)
    (case cf_9 => k_is)
    (case v2_9 => exact rfl)
    (case fi_9 => first | exact rfl | decide +kernel)
    (case me_9 => k_is)
    (case su_9 => ks_is)
    (case kl_10 => k_is)
    (case rv_10 => first | exact rfl | decide +kernel)
    (case sa_10 => k_is)
    (case ii_10 => k_is)
    (case it_10 => k_is)
    (case lf_10 => k_is)
    (case co_10 => k_is)
    (case ce_10 => k_is)
    (case cf_10 => k_is)
    (case v2_10 => exact rfl)
    (case fi_10 => first | exact rfl | decide +kernel)
    (case me_10 => k_is)
    (case su_10 => ks_is)
    (case n9 => k_is)
    (case n10 => k_is)
    (case n11 => k_is)
    (case a1 => k_is)
    (case l1 => k_is)
    (case c1 => k_is)
    (case k1 => k_is)
    (case a2 => k_is)
    (case l2 => k_is)
    (case c2 => k_is)
    (case k2 => k_is)
    (case a3 => k_is)
    (case l3 => k_is)
    (case c3 => k_is)
    (case k3 => k_is)
#print axioms PySem.Challenge.cw_turnstile_k01_refusals_apart_holds
