"""Weighdoors: halls whose doors stand open while told weights stand on told floors."""
