"""Customs: a tariff, declarations, parcels gathered by weeks, duty and tax to the last part."""
